/- Of Un. -/
import Derived.Test.YtkhigkcmgcafdaaGreatDoorZ36
set_option linter.unusedVariables false
set_option linter.unusedSimpArgs false
set_option maxHeartbeats 16000000
set_option maxRecDepth 20000
namespace Go.Proofs.YtkhigkcmgcafdaaGreatDoor
open Go.RowKit
section
variable {B:Bk}{o o':Nat→Nat}{N n n' r g:Nat}{v v':Y.V}{w w' wx:World}{C:Nat→Prop}{i p:Nat}{tm:Int}
@[reducible] def mZo:Array Value := #[.int .i64 0, .int .i64 0, .int .i64 0, .int .i64 0, .int .i64 0, .int .i64 0, .int .i64 0, .bool false, .bool false, .slice none 0 0, .int .i64 0, .int .i64 0, .int .i64 0, .int .i64 0, .int .i64 0, .int .i64 0, .int .u64 0, .int .i64 0]
theorem all2_old(w:World)(o o':Obj):((w.alloc o).alloc o').heap[w.heap.size]? = some o:=by
 rw[Below.heap_alloc _ _ _ (by simp)];exact heap_alloc_new w _
theorem all2_new(w:World)(o o':Obj):((w.alloc o).alloc o').heap[w.heap.size+1]? = some o':=by
 have:=heap_alloc_new (w.alloc o) o'
 rw[World.size_alloc]at this;exact this
theorem set_row_hp(w:World)(g:Nat)(cs old:Array Value)(t:TypeId)(fr:Nat × Nat)(h:w.heap[g]? = some (.cells old t fr)):(w.setRow g cs).heap[g]? = some (.cells cs t fr):=by
 simp[World.setRow,Array.getElem?_modify,h]
theorem mcopy_g(pl p g nx got tg ii:Int)(sp inn:Bool)(bk af ag s0 s1 s2 s3 s4:Int)(a:Option Addr)(n c:Nat)(xs:List Int)(w:World)(hx:n=xs.length)(hl:xs.length≤4096)(hr:Reads w (.slice a n c) xs) :
 Calls Tryz.prog 56 #[.agg (machG pl p g nx got tg ii sp inn (.slice a n c) bk af ag s0 s1 s2 s3 s4)] w fun e w'=>∃ a' n' c',e = .returned (.agg (machG pl p g nx got tg ii sp inn (Value.slice a' n' c') bk af ag s0 s1 s2 s3 s4))∧Below w.heap.size w w':=by
 have HB:=hid (((Below.refl w.heap.size w).alloc (Nat.le_refl _) (.cells (machG pl p g nx got tg ii sp inn (.slice a n c) bk af ag s0 s1 s2 s3 s4) 70)).alloc (by simp) (.cells mZo 70))
 have HR:=hid (clone_int (.slice a n c) xs ((w.alloc (.cells (machG pl p g nx got tg ii sp inn (.slice a n c) bk af ag s0 s1 s2 s3 s4) 70)).alloc (.cells mZo 70)) (by omega) (hr.of_below (((Below.refl w.heap.size w).alloc (Nat.le_refl _) _).alloc (by simp) _)))
 clear hr hx hl
 go_enter Tryz.func56,Tryz.ntmps56
 go_wp2_with fail
 refine HR.out.mono ?_
 rintro e w2 ⟨v2,rfl,ho2,hb2⟩
 simp only[World.size_alloc]at ho2 hb2
 have hz2:=hb2.size
 simp only[World.size_alloc]at hz2
 have n2:w2.heap[w.heap.size]? = some (.cells (machG pl p g nx got tg ii sp inn (.slice a n c) bk af ag s0 s1 s2 s3 s4) 70 (0,0)):=by
  rw[hb2.block _ (by omega)]
  exact all2_old w _ _
 have r2:w2.heap[w.heap.size+1]? = some (.cells mZo 70 (0,0)):=by
  rw[hb2.block _ (by omega)]
  exact all2_new w _ _
 obtain⟨va,vn,vc,rfl⟩:=ho2.slice3
 have HW:=hid (HB.out.trans (hb2.mono (by omega)))
 have j9:w2.cell? ⟨w.heap.size,9,none⟩=some (.slice a n c):=blk_cell n2 rfl
 have e9:w2.frozen? ⟨w.heap.size,9,none⟩=false:=blk_free n2
 have N3:=hid (blk_set (.slice va vn vc) n2 (show (machG pl p g nx got tg ii sp inn (.slice a n c) bk af ag s0 s1 s2 s3 s4).setIfInBounds 9 (.slice va vn vc)=machG pl p g nx got tg ii sp inn (.slice va vn vc) bk af ag s0 s1 s2 s3 s4 from rfl))
 have R3:=hid ((Below.heap_setCell w2 ⟨w.heap.size,9,none⟩ (.slice va vn vc) (w.heap.size+1) (by simp)).trans r2)
 clear ho2 hb2 n2 r2 HR HB
 go_wp2_with (first
  | (refine wpList_load_known (by rfl) 70 (.tmp 1) rfl w.heap.size rfl 70 (machG pl p g nx got tg ii sp inn (.slice va vn vc) bk af ag s0 s1 s2 s3 s4) (0,0) _ N3.out Tryz.underlying70 rfl (by kernel_rfl) ?_)
  | (refine wpList_store_row rfl 70 (.tmp 2) (.tmp 7) rfl (w.heap.size+1) (machG pl p g nx got tg ii sp inn (.slice va vn vc) bk af ag s0 s1 s2 s3 s4) rfl rfl 70 _ R3.out (by kernel_rfl) (by rfl) (by simp[machG,Value.oneCell']) ?_))
 refine bodyPost_ret (v := .agg (machG pl p g nx got tg ii sp inn (.slice va vn vc) bk af ag s0 s1 s2 s3 s4)) (results_cell_row rfl _ _ (w.heap.size+1) 70 (machG pl p g nx got tg ii sp inn (.slice va vn vc) bk af ag s0 s1 s2 s3 s4) (0,0) _ (by rfl) (set_row_hp _ _ _ _ _ _ R3.out) Tryz.underlying70 rfl (by kernel_rfl)) rfl ⟨va,vn,vc,rfl,?_⟩
 exact row_below (HW.out.setCell (Nat.le_refl _) _) (by omega) _
def mgV (m:Y.Mh)(rv:Value):Array Value:=machG m.pl m.p m.g m.nx m.got m.tg m.i m.spin m.inn rv m.back m.after m.arg m.sn m.sv m.st m.tk m.tm
theorem wmachine(h:WR B o n v w)(hi:i<v.M)(hl:(v.mach i).rest.length≤4096) :
 Calls Tryz.prog 26 #[.pointer (some ⟨B.W,0,none⟩), .int .i64 (i:Int)] w fun e w'=>∃ a' n' c',e = .returned (.agg (mgV (v.mach i) (.slice a' n' c')))∧Below w.heap.size w w':=by
 have I0:(0:Int)≤(i:Int):=by omega
 have I1:(i:Int)<(v.M:Int):=by omega
 have t0:decide ((i:Int)<0)=false:=decide_eq_false (by omega)
 have t1:decide ((v.M:Int)≤(i:Int))=false:=decide_eq_false (by omega)
 have B0:=hid (bla w (.cells mZo 70))
 have Z0:=hid (heap_alloc_new w (.cells mZo 70))
 have h1:=h.below (bla w (.cells mZo 70))
 have a14:=h1.w14
 obtain⟨ra,rcc,k9,hr⟩:=h1.m9 hi
 have RD:=hid hr.rd
 obtain⟨xs,hxs⟩:∃ xs,xs=(v.mach i).rest:=⟨_,rfl⟩
 obtain⟨rn,hrn⟩:∃ rn,rn=xs.length:=⟨_,rfl⟩
 rw[←hxs]at RD k9 hl
 rw[←hrn]at RD k9
 have k0:=h1.m0 hi
 have k1:=h1.m1 hi
 have k2:=h1.m2 hi
 have k3:=h1.m3 hi
 have k4:=h1.m4 hi
 have k5:=h1.m5 hi
 have k6:=h1.m6 hi
 have k7:=h1.m7 hi
 have k8:=h1.m8 hi
 have k10:=h1.m10 hi
 have k11:=h1.m11 hi
 have k12:=h1.m12 hi
 have k13:=h1.m13 hi
 have k14:=h1.m14 hi
 have k15:=h1.m15 hi
 have k16:=h1.m16 hi
 have k17:=h1.m17 hi
 unfold mgV
 generalize (v.mach i).pl=pl at k0 ⊢
 generalize (v.mach i).p=p at k1 ⊢
 generalize (v.mach i).g=g at k2 ⊢
 generalize (v.mach i).nx=nx at k3 ⊢
 generalize (v.mach i).got=got at k4 ⊢
 generalize (v.mach i).tg=tg at k5 ⊢
 generalize (v.mach i).i=ii at k6 ⊢
 generalize (v.mach i).spin=sp at k7 ⊢
 generalize (v.mach i).inn=inn at k8 ⊢
 generalize (v.mach i).back=bk at k10 ⊢
 generalize (v.mach i).after=af at k11 ⊢
 generalize (v.mach i).arg=ag at k12 ⊢
 generalize (v.mach i).sn=s0 at k13 ⊢
 generalize (v.mach i).sv=s1 at k14 ⊢
 generalize (v.mach i).st=s2 at k15 ⊢
 generalize (v.mach i).tk=s3 at k16 ⊢
 generalize (v.mach i).tm=s4 at k17 ⊢
 have CP:=hid (fun(y:World) (hq:Quiet (w.alloc (.cells mZo 70)) y)=>mcopy_g pl p g nx got tg ii sp inn bk af ag s0 s1 s2 s3 s4 ra rn rcc xs y hrn hl (RD.out.blocks (by rw[hq.heap];exact Nat.le_refl _) (fun _ _ _ _ _ _=>by rw[hq.heap])))
 clear h h1 hr hl hxs hrn
 go_enter Tryz.func26,Tryz.ntmps26
 go_wp2_with fail
 refine(CP.out _ (Quiet.refl _)).mono ?_
 rintro e w2 ⟨a',n',c',rfl,hb⟩
 have X2:=hid ((hb.block _ (by simp)).trans Z0.out)
 have B2:=hid (B0.out.trans (hb.mono B0.out.size))
 clear hb k0 k1 k2 k3 k4 k5 k6 k7 k8 k9 k10 k11 k12 k13 k14 k15 k16 k17 a14
 go_wp2_with (refine wpList_store_row rfl 70 (.tmp 4) (.tmp 25) rfl w.heap.size (machG pl p g nx got tg ii sp inn (Value.slice a' n' c') bk af ag s0 s1 s2 s3 s4) rfl rfl 70 _ X2.out (by kernel_rfl) (by rfl) (by simp[machG,Value.oneCell']) ?_)
 refine bodyPost_ret (v := .agg (machG pl p g nx got tg ii sp inn (Value.slice a' n' c') bk af ag s0 s1 s2 s3 s4)) (results_cell_row rfl _ _ w.heap.size 70 (machG pl p g nx got tg ii sp inn (Value.slice a' n' c') bk af ag s0 s1 s2 s3 s4) (0,0) _ (by rfl) (set_row_hp _ _ _ _ _ _ X2.out) Tryz.underlying70 rfl (by kernel_rfl)) rfl ⟨_,_,_,rfl,?_⟩
 exact row_below B2.out (by omega) _
end
end Go.Proofs.YtkhigkcmgcafdaaGreatDoor
