/- Of Up. -/
import Derived.Test.YtkhigkcmgcafdaaGreatDoorZ36
set_option linter.unusedVariables false
set_option linter.unusedSimpArgs false
set_option maxHeartbeats 16000000
set_option maxRecDepth 20000
namespace Go.Proofs.YtkhigkcmgcafdaaGreatDoor
open Go.RowKit
def EvsW (es:List Ev)(w:World)(e:Ending)(w':World):Prop:=∃ v,e = .returned v∧RdE w' v es∧Below w.heap.size w w' ∧ ∀ k,v.ownBlock=some k→w.heap.size≤k
theorem clone_evW(ad:Addr)(es:List Ev)(c:Nat)(w:World)(hn:es.length<1000)(hc:∀ j u,(fe es)[j]? = some u→w.cell? (ad.add j)=some u) :
 Calls Tryz.prog 70 #[.slice (some ad) es.length c] w (EvsW es w):=by
 obtain⟨i0,hi,hz0,hz1,hz2⟩:=info_parts infoEv
 obtain⟨us,hus⟩:∃ us,us=fe es:=⟨_,rfl⟩
 obtain⟨n,hnn⟩:∃ n,n=es.length:=⟨_,rfl⟩
 have hl:us.length=n*5:=by rw[hus,hnn,fe_len]
 have h1:∀ u ∈ us,u.oneCell'=true:=by rw[hus];exact fe_ones es
 have RE:=hid (fun(w1:World) (base:Nat) (v:Value) (h:w1.ownsRow base 38 5 v (0+n) ([] ++ us))=>(show RdE w1 v es from own_rdE (by rw[hnn,hus,Nat.zero_add,List.nil_append]at h;exact h)))
 rw[←hus]at hc
 rw[←hnn]at hn ⊢
 clear hus hnn
 have hnil:=fun(w:World)=>Lib.run_eql_slice_nil (P:=Tryz.prog) w 29 38 (some ad) n c 0 0 Tryz.underlying29
 simp only[Option.isNone_some]at hnil
 have hown:(w.alloc (.cells #[] 38)).ownsRow w.heap.size 38 5 (.slice (some ⟨w.heap.size,0,none⟩) 0 0) 0 []:=World.ownsRow_made w #[] 0 (Nat.le_refl _) (by omega) rfl
 have HN:=hid (fun j u (hj:us[j]? = some u)=>(show (w.alloc (.cells #[] 38)).cell? (ad.add j)=some u from by
  have:=hc j u hj
  rw[←this]
  exact World.cell?_of_block (Below.heap_alloc _ _ _ (cell_lt this))))
 have H1:=hid h1
 have HL:=hid hl
 have HNN:=hid hn
 clear hc h1 hl hn
 go_enter Tryz.func70,Tryz.ntmps70
 go_wp2_with (at_builtin;refine wpList_append_own _ rfl _ _ 29 rfl w.heap.size 38 i0 _ 5 40 Tryz.underlying29 hi hz0 hz1 hz2 rfl (by decide) _ _ _ rfl hown ad n c us rfl ?c0 ?c1 ?c2 ?c3 ?c4 ?c5 ?_)
 case c0=>exact HL.out
 case c1=>exact HN.out
 case c2=>exact H1.out
 case c3=>have:=HNN.out;unfold maxLen;omega
 case c4=>have:=HNN.out;omega
 case c5=>simp
 intro v' w1 hown' hgrow hne
 have hbel:Below w.heap.size w w1:=((Below.refl w.heap.size w).alloc (Nat.le_refl _) (.cells #[] 38)).grown hgrow (by simp) (fun k hk=>by simp[Value.ownBlock]at hk;omega)
 have RR:=hid (RE.out w1 _ v' (by simpa using hown'))
 obtain⟨_,⟨e,_⟩|⟨gq,cap,cur,e,hge,_⟩⟩:=hown'
 ·exact absurd e hne
 subst e
 have HB:=hid (And.intro hbel hge)
 clear hown hgrow hnil hne hbel HN H1 HL RE hge
 go_wp2
 go_ret
 exact⟨_,rfl,RR.out,HB.out.1,fun k hk=>by cases hk;exact HB.out.2⟩
theorem len_w(w:World)(p o:Nat)(a:Option Addr)(n c:Nat)(h:w.cell? ⟨p,o,none⟩=some (.slice a n c)) :
 Calls Tryz.prog 71 #[.pointer (some ⟨p,o,none⟩)] w fun e w'=>e = .returned (.int .i64 n)∧w'=w:=by
 go_enter Tryz.func71,Tryz.ntmps71
 go_wp2
 go_ret
 exact⟨rfl,rfl⟩
theorem from_0W(w:World)(p o base:Nat)(v:Value)(es:List Ev)(n:Nat)(hn:n=es.length)(h0:0<n)(h9:n<1000)(hc:w.cell? ⟨p,o,none⟩=some v)(h:Lg w base v n (fe es)) :
 Calls Tryz.prog 33 #[.pointer (some ⟨p,o,none⟩), .int .i64 0] w (EvsW es w):=by
 have hcs:=fun g=>h.own.cells (g:=g)
 obtain⟨hl,⟨e,h2⟩|⟨gq,cap,cur,e,_,hg,hcap,hcm,_⟩⟩:=h.own
 ·exact absurd h2 (by omega)
 subst e
 have hpl:=cell_lt hc
 have hgl:=blk_lt hg
 have hcc:(cap:Int)≤9223372036854775807:=by unfold maxLen at hcm;omega
 have h2c:(n:Int)≤(cap:Int):=by omega
 have h2d:(0:Int)≤(n:Int):=by omega
 have LN:=hid (fun(y:World) (hq:Quiet w y)=>(len_w y p o _ n cap (by obtain⟨n,rfl⟩:=hq;exact hc)))
 have CL:=hid (fun(y:World) (hb:Below w.heap.size w y)=>(clone_evW ⟨gq,0,none⟩ es cap y (by omega) (fun j u hj=>by
  have:=hcs gq rfl j u hj
  exact(hb.cell (p:=(⟨gq,0,none⟩:Addr).add j) (cell_lt this)).trans this)).mono (R':=EvsW es w) (fun e w' ⟨v,he,hr,hb',hk⟩=>⟨v,he,hr,hb.trans (hb'.mono hb.size),fun k e=>Nat.le_trans hb.size (hk k e)⟩))
 rw[←hn]at CL
 clear hl hg hcs h hgl hn
 go_enter Tryz.func33,Tryz.ntmps33
 go_wp2_with fail
 go_region_with (first
  | (go_at_call 71;refine(LN.out _ ⟨1,rfl⟩).mono ?_;rintro e y ⟨rfl,rfl⟩)
  | (go_at_call 70;refine(CL.out _ (Quiet.below ⟨1,rfl⟩ _)).mono ?_;rintro e y5 ⟨v5,rfl,hr5,hb5,hk5⟩))
 all_goals
  have HB5:=hid (And.intro hb5 hk5)
  have HR5:=hid hr5
  clear hb5 hr5 hk5
  go_wp2
  go_ret
  exact⟨_,rfl,HR5.out,HB5.out.1,HB5.out.2⟩
def evE (e:Y.Ev):Ev:=(e.k,e.g,e.m,e.p,e.x)
theorem lgV_fe(l:List Y.Ev):lgV l=fe (l.map evE):=by
 induction l with
 | nil=>rfl
 | cons e l ih=>rw[List.map_cons,fe_cons, ←ih];rfl
section
variable {B:Bk}{o o':Nat→Nat}{N n n' r g:Nat}{v v':Y.V}{w w' wx:World}{C:Nat→Prop}{i p:Nat}{tm:Int}
theorem wevents(h:WR B o n v w)(h0:0<v.lg.length)(h9:v.lg.length<1000):Calls Tryz.prog 9 #[.pointer (some ⟨B.W,0,none⟩)] w (EvsW (v.lg.map evE) w):=by
 obtain⟨_,lg,h2,h3,_⟩:=h.c1
 rw[lgV_fe]at h3
 have FR:=hid (from_0W w B.W 15 0 lg (v.lg.map evE) v.lg.length (by simp) h0 h9 (blk_cell h2 rfl) h3)
 generalize v.lg.map evE=es at FR
 clear h h0 h9 h2 h3
 go_enter Tryz.func9,Tryz.ntmps9
 go_wp2_with fail
 refine FR.out.mono ?_
 rintro e w2 ⟨v,rfl,hr,hb,hk⟩
 have HB:=hid (And.intro hb hk)
 have HR:=hid hr
 clear hb hr hk FR
 go_wp2
 go_ret
 exact⟨_,rfl,HR.out,HB.out.1,HB.out.2⟩
end
end Go.Proofs.YtkhigkcmgcafdaaGreatDoor
