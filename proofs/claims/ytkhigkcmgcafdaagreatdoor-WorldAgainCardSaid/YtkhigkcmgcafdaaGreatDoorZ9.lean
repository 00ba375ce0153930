/- Of Yv, Yi, Yt, Ya, Yb, Yc, Yd, Ye, Yf. -/

set_option linter.unusedVariables false
set_option linter.unusedSimpArgs false
set_option maxHeartbeats 16000000
namespace Go.Proofs.YtkhigkcmgcafdaaGreatDoor.Y
structure Mh where
 pl:Int
 p:Int
 g:Int
 nx:Int
 got:Int
 tg:Int
 i:Int
 spin:Bool
 inn:Bool
 rest:List Int
 back:Int
 after:Int
 arg:Int
 sn:Int
 sv:Int
 st:Int
 tk:Int
 tm:Int
 yes:Bool
 til:Int
deriving DecidableEq,Repr
def w64 (x:Int):Int:=x % 18446744073709551616
def sat (t d:Int):Int:=max (-9223372036854775808) (min 9223372036854775807 (t+d))
namespace Mh
def fresh(pl p:Int):Mh:=⟨pl,p, -1, -1, -1, -1,0,false,false, [],0,0,0,0,0,0,0,0,false,0⟩
def get (m:Mh)(r:Int × Bool):Mh:=if r.2 then { m with yes:=true,got:=r.1 } else { m with yes:=false }
def getAll(m:Mh):List Int→Mh
 | [] => { m with yes:=false }
 | x :: l => { m with yes:=true,got:=x,rest:=l }
def hold (m:Mh)(r:Int × Bool):Mh:=if r.2 then { m with yes:=true,p:=r.1 } else { m with yes:=false }
def deliver(m:Mh)(after:Int):Mh := { m with after:=after,pl:=25 }
def parked(m:Mh):Mh:=if m.yes then m.deliver 1 else { m with pl:=1 }
def settle(m:Mh):Mh := { m with pl:=if m.rest ≠ [] then 18 else if m.spin then 19 else 21 }
def steal(m:Mh)(P at':Int):Mh := { m with i:=at',pl:=if at'<P then 6 else 7 }
def look (m:Mh)(P:Int):Mh:=if m.yes then { m with pl:=11 } else { m with i:=m.i+1,pl:=if m.i+1<P then 9 else 10 }
def found(m:Mh)(P:Int):Mh:=
 if m.yes then { m with back:=20,pl:=if m.rest ≠ [] then 17 else if m.spin then 19 else 20 }
 else if m.pl=2 then { m with pl:=3 }
 else if m.pl=3 then { m with pl:=4 }
 else if m.pl=4 then (if m.spin then m.steal P 1 else { m with pl:=5 })
 else if m.pl=6 then m.steal P (m.i+1)
 else { m with pl:=8 }
def restOn(m:Mh)(P:Int):Mh:=
 if m.pl=9 then m.look P
 else if m.pl=10 then { m with pl:=if m.yes then 11 else 13 }
 else if m.pl=11 then { m with pl:=if m.yes then 12 else 13 }
 else if m.pl=13 then { m with pl:=if m.p ≠ -1 then 4 else if m.yes then 14 else 16 }
 else if m.pl=14 then { m with pl:=if m.yes then 15 else 16 }
 else if m.yes then m.deliver 13 else { m with pl:=16 }
def goOn (m:Mh)(P:Int):Mh:=
 if m.pl=2∨m.pl=3∨m.pl=4∨m.pl=6∨m.pl=7 then m.found P
 else if 9≤m.pl∧m.pl≤15∧m.pl≠12 then m.restOn P
 else if m.pl=28 then ({ m with back:=0 }:Mh).settle
 else if m.pl=17∨m.pl=18 then m.settle
 else if m.pl=27 then { m with pl:=21 }
 else if m.pl=23 then { m with pl:=if m.tg ≠ -1 then 24 else m.back }
 else if m.pl=25 then { m with pl:=if m.yes then 26 else m.after }
 else if m.pl=30 then (if m.g = -1 then m.parked else { m with pl:=0 })
 else if m.pl=29 then m.parked
 else m
def out (m:Mh):Mh := { m with inn:=false,sn:=0,sv:=0,st:=0,tk:=0,tm:=0 }
def into (m:Mh)(k:Int):Mh := { m with inn:=true,sn:=2*k,sv:=2*k+1,st:=0,tk:=0,tm:=0 }
def cls (pl:Int):Int:=
 if pl=2∨pl=4∨pl=7∨pl=10∨pl=11∨pl=13∨pl=15∨pl=18∨pl=23∨pl=27 then 1
 else if pl=3∨pl=17∨pl=28 then 2
 else if pl=6 then 3
 else if pl=9 then 4
 else if pl=14∨pl=25∨pl=29∨pl=30 then 5
 else 0
def lkOf (r n:Int):Int:=if 0≤r∧r<n then r+1 else -1
def lkAround(p i n:Int):Int:=if 0≤p∧p<n∧0≤i then (p+i % n) % n else -1
def lock (m:Mh)(n:Int):Int:=
 if cls m.pl=1 then 0 else if cls m.pl=2 then lkOf m.p n else if cls m.pl=3 then lkOf (lkAround m.p m.i n) n
 else if cls m.pl=4 then lkOf m.i n else if cls m.pl=5 then n+1 else -1
end Mh
structure RV where
 xs:List Int
 nx:Int
 hs:Bool
 st:Int
deriving DecidableEq,Repr
namespace RV
def empty:RV:=⟨[],0,false,0⟩
def list (r:RV):List Int:=r.xs ++ if r.hs then [r.nx] else []
def get (r:RV):(Int × Bool) × RV:=
 if r.hs then
  match r.xs with
  | []=>((r.nx,true),⟨[],0,false,0⟩)
  | x :: l=>if r.st<4 then ((r.nx,true),⟨x :: l,0,false,r.st+1⟩) else ((x,true),⟨l ++ [r.nx],0,false,0⟩)
 else
  match r.xs with
  | []=>((0,false),r)
  | x :: l=>((x,true),⟨l,r.nx,false,0⟩)
def steal(r:RV):List Int × RV:=
 if 0<r.xs.length then (r.xs.take ((r.xs.length+1) / 2),⟨r.xs.drop ((r.xs.length+1) / 2),r.nx,r.hs,r.st⟩)
 else if r.hs then ([r.nx],⟨[],0,false,0⟩) else ([],r)
def ready(r:RV)(g:Int):List Int × RV:=
 if r.hs then
  (if r.xs.length<256 then [] else r.xs.take 128 ++ [r.nx],⟨if r.xs.length<256 then r.xs ++ [r.nx] else r.xs.drop 128,g,true,r.st⟩)
 else ([],⟨r.xs,g,true,r.st⟩)
def putAll(r:RV)(l:List Int):List Int × RV:=(l.drop (256 - r.xs.length),⟨r.xs ++ l.take (256 - r.xs.length),r.nx,r.hs,r.st⟩)
end RV
structure IV where
 ps:List Bool
 pd:List Int
 ss:List Int
 po:Int
deriving DecidableEq,Repr
def fst:List Bool→Option Nat
 | []=>none
 | true :: _=>some 0
 | false :: l=>(fst l).map (· + 1)
namespace IV
def has (x:IV)(p:Int):Bool:=decide (0≤p) && x.ps.getD p.toNat false
def putP (x:IV)(p:Int):IV:=if 0≤p∧p<x.ps.length∧p ∉ x.pd then { x with ps:=x.ps.set p.toNat true } else x
def takeP(x:IV):(Int × Bool) × IV:=
 match fst x.ps with
 | none=>((0,false),x)
 | some k=>(((k:Int),true), { x with ps:=x.ps.set k false })
def pend (x:IV)(p:Int):IV:=if 0≤p∧p<x.ps.length∧x.has p=false∧p ∉ x.pd then { x with pd:=x.pd ++ [p] } else x
def takePend(x:IV):(Int × Bool) × IV:=
 match x.pd with
 | []=>((0,false),x)
 | p :: l=>((p,true), { x with pd:=l })
def stop (x:IV)(M:Nat)(m:Int):Bool × IV:=
 if m<0∨(M:Int)≤m∨m=x.po∨m ∈ x.ss then (false,x)
 else if x.po = -1 then (true, { x with po:=m }) else (false, { x with ss:=x.ss ++ [m] })
def takeM(x:IV):(Int × Bool) × IV:=
 match x.ss.getLast? with
 | some m=>((m,true), { x with ss:=x.ss.dropLast })
 | none=>if x.po = -1 then ((0,false),x) else ((x.po,true), { x with po := -1 })
def leave(x:IV)(m:Int):Bool × IV:=if m = -1∨m≠x.po then (false,x) else (true, { x with po := -1 })
end IV
structure SV where
 now:Int
 L:List (Int × Int × Int)
 ad:Nat
 W:List (Int × Int)
 R:List Int
deriving DecidableEq,Repr
def ins (e:Int × Int × Int):List (Int × Int × Int)→List (Int × Int × Int)
 | [] => [e]
 | x :: l=>if e.1<x.1 then e :: x :: l else x :: ins e l
def lst:List (Int × Int)→Option (Int × Int)
 | []=>none
 | e :: l=>match lst l with
   | none=>some e
   | some x=>if e.1<x.1 then some e else some x
namespace SV
def dueL (s:SV):Bool:=match s.L with
 | []=>false
 | e :: _=>decide (e.1≤s.now)
def dueW (s:SV):List (Int × Int):=s.W.filter fun e=>decide (e.1 ∈ s.R)
def due (s:SV):Bool:=s.dueL || s.W.any fun e=>decide (e.1 ∈ s.R)
def hasL (s:SV)(g:Int):Bool:=decide (g ∈ s.L.map fun e=>e.2.2)
def hasW (s:SV)(g:Int):Bool:=decide (g ∈ s.W.map Prod.snd)
def fdW (s:SV)(fd:Int):Bool:=decide (fd ∈ s.W.map Prod.fst)
def full (s:SV)(fd:Int):Bool := !s.fdW fd && !decide (fd ∈ s.R) && decide (1024≤s.W.length+(s.R.filter fun a => !s.fdW a).length)
def tick (s:SV)(d:Int):SV := { s with now:=sat s.now (max d 0) }
def ready(s:SV)(fd:Int):Option SV:=if s.full fd then none else some { s with R:=if fd ∈ s.R then s.R else fd :: s.R }
def sleep(s:SV)(g d:Int):Bool × SV:=
 if s.hasW g || s.hasL g then (false,s)
 else
  let t:SV := { s with L:=ins (sat s.now (max d 0),(s.ad:Int),g) s.L,ad:=s.ad+1 }
  (t.due,t)
def wait (s:SV)(fd g:Int):(Bool × Bool) × SV:=
 if s.hasL g || s.fdW fd || s.hasW g || s.full fd then ((false,false),s)
 else
  let t:SV := { s with W:=(fd,g) :: s.W }
  ((t.due,true),t)
def take (s:SV):(Int × Bool) × SV:=
 if s.dueL then
  match s.L with
  | []=>((0,false),s)
  | e :: l=>((e.2.2,true), { s with L:=l })
 else
  match lst s.dueW with
  | none=>((0,false),s)
  | some e=>((e.2,true), { s with W:=s.W.filter fun x => !(x.1 == e.1),R:=s.R.filter fun a => !(a == e.1) })
end SV
structure Ev where
 k:Int
 g:Int
 m:Int
 p:Int
 x:Int
deriving DecidableEq,Repr
def evTo (k:Int):Int:=if k=0 then 1 else if k=1 then 1 else if k=2 then 2 else if k=3 then 1 else if k=4 then 3 else if k=5 then 4 else if k=6 then 5 else 6
structure V where
 P:Nat
 M:Nat
 G:Nat
 ms:List Int
 mc:Nat
 ns:List Int
 rs:List RV
 tu:List Int
 qu:List Int
 sr:SV
 id:IV
 mm:List Mh
 lg:List Ev
deriving DecidableEq,Repr
structure St where
 kd:Int
 act:Int
 a:Int
 x:Int
 d:Int
deriving DecidableEq,Repr
namespace V
def spn (v:V):Nat:=2*(v.P+2)
def nts (v:V):Nat:=v.spn+1
def sts (v:V):Nat:=v.nts+v.M
def wds (v:V):Nat:=v.sts+v.G
def mach (v:V)(i:Nat):Mh:=v.mm.getD i (Mh.fresh 16 (-1))
def putM (v:V)(i:Nat)(m:Mh):V := { v with mm:=v.mm.set i m }
def onM (v:V)(i:Nat)(h:Mh→Mh):V:=v.putM i (h (v.mach i))
def ring (v:V)(p:Nat):RV:=v.rs.getD p RV.empty
def putR (v:V)(p:Nat)(r:RV):V := { v with rs:=v.rs.set p r }
def putQ (v:V)(q:List Int):V := { v with qu:=q }
def putS (v:V)(s:SV):V := { v with sr:=s }
def putI (v:V)(x:IV):V := { v with id:=x }
def both (v:V)(k:Nat)(x:Int):V := { v with ms:=v.ms.set k x,ns:=v.ns.set k x,mc:=v.mc+1 }
def bothF(v:V)(k:Nat)(f:Int→Int):V := { v with ms:=v.ms.set k (f (v.ms.getD k 0)),ns:=v.ns.set k (f (v.ns.getD k 0)),mc:=v.mc+1 }
def stat (v:V)(g:Int):Int:=if 0≤g∧g<v.G then v.ns.getD (v.sts+g.toNat) 0 else 0
def see (v:V)(e:Ev):V := { v.both (v.sts+e.g.toNat) (evTo e.k) with lg:=v.lg ++ [e] }
def spin (v:V)(d:Int):V:=v.bothF v.spn fun x=>w64 (x+d)
def wake (v:V)(i:Int):V:=v.bothF (v.nts+i.toNat) fun x=>if x=0 then 1 else x
def asleep(v:V)(i:Nat):Bool:=decide ((v.mach i).pl=16) && !decide (v.ns.getD (v.nts+i) 0=1)
def share(v:V):Nat:=min (min (v.qu.length / v.P+1) v.qu.length) 128
def one (v:V):(Int × Bool) × V:=match v.qu with
 | []=>((0,false),v)
 | x :: l=>((x,true),v.putQ l)
def takeQ(v:V):List Int × V:=(v.qu.take v.share,v.putQ (v.qu.drop v.share))
def leave(v:V)(i:Nat)(k x:Int):V:=
 let m:=v.mach i
 (v.see ⟨k,m.g,i,m.p,x⟩).onM i fun m => { m with g := -1 }
def release(v:V)(i:Nat):V:=
 let r:=v.takeQ
 let v:=r.2.onM i (·.getAll r.1)
 if (v.mach i).yes then v else (v.putI (v.id.putP (v.mach i).p)).onM i fun m => { m with p := -1 }
def stop (v:V)(i:Nat):V:=
 let r:=v.id.takePend
 if r.1.2 then (v.putI r.2).onM i fun m => { m with p:=r.1.1,spin:=true }
 else (v.putI (v.id.stop v.M i).2).onM i fun m => { m with yes:=(v.id.stop v.M i).1 }
def find (v:V)(i:Nat)(tm:Int):V × Bool:=
 if 0<tm then (v.spin (-1),false)
 else
  let r:=v.id.takeP
  if r.1.2 then
   let t:=r.2.takeM
   if t.1.2 then ((((v.putI t.2).onM t.1.1.toNat fun m => { m with nx:=r.1.1 }).onM i fun m => { m with tg:=t.1.1 }),false)
   else (v.putI (r.2.pend r.1.1),false)
  else (v,true)
def park (v:V)(i:Nat)(tm:Int):V × Bool:=
 let m:=v.mach i
 if 0<tm then (v.leave i 5 m.til,false)
 else
  let r:=v.sr.sleep m.g m.arg
  ((v.putS r.2).onM i fun m => { m with til:=sat v.sr.now (max m.arg 0),yes:=r.1 },true)
def await(v:V)(i:Nat)(tm:Int):V × Bool:=
 let m:=v.mach i
 if 0<tm then (v.leave i 6 m.arg,false)
 else
  let r:=v.sr.wait m.arg m.g
  ((v.putS r.2).onM i fun m => { m with yes:=r.1.1 },r.1.2)
def give (v:V)(i:Nat)(tm:Int):V × Bool:=
 let m:=v.mach i
 if m.pl=17 then
  let r:=(v.ring m.p.toNat).putAll m.rest
  ((v.putR m.p.toNat r.2).onM i fun m => { m with rest:=r.1 },false)
 else if m.pl=18 then ((v.putQ (v.qu ++ m.rest)).onM i fun m => { m with rest := [] },false)
 else if m.pl=27 then ((v.putQ (v.qu ++ [m.got])).onM i fun m => { m with got := -1 },false)
 else if m.pl=28 then
  let r:=(v.ring m.p.toNat).ready m.got
  ((v.putR m.p.toNat r.2).onM i fun m => { m with rest:=r.1,got := -1 },false)
 else if m.pl=23 then v.find i tm
 else if m.pl=29 then v.park i tm
 else if m.pl=30 then v.await i tm
 else (v,false)
def with'(v:V)(i:Nat)(tm:Int):V × Bool:=
 let m:=v.mach i
 if m.pl=2 then (v.one.2.onM i (·.get v.one.1),false)
 else if m.pl=3 then
  let r:=(v.ring m.p.toNat).get
  ((v.putR m.p.toNat r.2).onM i (·.get r.1),false)
 else if m.pl=4 then (v.takeQ.2.onM i (·.getAll v.takeQ.1),false)
 else if m.pl=6 then
  let k:=((m.p+m.i) % v.P).toNat
  let r:=(v.ring k).steal
  ((v.putR k r.2).onM i (·.getAll r.1),false)
 else if m.pl=7 then (v.release i,false)
 else if m.pl=9 then (v.onM i fun m => { m with yes:=decide (0<(v.ring m.i.toNat).list.length) },false)
 else if m.pl=10 then (v.onM i fun m => { m with yes:=decide (0<v.qu.length) },false)
 else if m.pl=11 then ((v.putI v.id.takeP.2).onM i (·.hold v.id.takeP.1),false)
 else if m.pl=13 then (v.stop i,false)
 else if m.pl=14 then (v.onM i fun m => { m with yes:=v.sr.due },false)
 else if m.pl=15 then ((v.putI (v.id.leave i).2).onM i fun m => { m with yes:=(v.id.leave i).1 },false)
 else if m.pl=25 then ((v.putS v.sr.take.2).onM i (·.get v.sr.take.1),false)
 else v.give i tm
def goOn (v:V)(i:Nat):V:=v.onM i (·.goOn v.P)
def sect (v:V)(i:Nat):V:=
 let m:=v.mach i
 if m.st=0 then ({ v with ms:=v.ms.set m.sn.toNat (w64 (v.ms.getD m.sn.toNat 0+1)),mc:=v.mc+1 }:V).onM i fun m => { m with tk:=v.ms.getD m.sn.toNat 0,st:=1 }
 else if m.st=1 then ({ v with mc:=v.mc+1 }:V).onM i fun m => { m with st:=if m.tk=v.ms.getD m.sv.toNat 0 then 2 else 1 }
 else if m.st=2 then
  let r:=v.with' i m.tm
  r.1.onM i fun m => { m with st:=if r.2 then 2 else 3,tm:=m.tm+1 }
 else if m.st=3 then (({ v with ms:=v.ms.set m.sv.toNat (w64 (m.tk+1)),mc:=v.mc+2 }:V).onM i Mh.out).goOn i
 else v
def locked(v:V)(i:Nat):V:=(if (v.mach i).inn then v else v.onM i fun m=>m.into (m.lock v.P)).sect i
def turn (v:V)(i:Nat):V:=
 let p:=(v.mach i).p.toNat
 let v:V := { v with tu:=v.tu.set p (v.tu.getD p 0+1) }
 v.onM i fun m=>if v.tu.getD p 0 % 61=0 then m.deliver 2 else { m with pl:=3 }
def rise (v:V)(i:Nat):V:=
 (v.bothF (v.nts+i) fun x=>if x=1 then 0 else x).onM i fun m=>if m.nx = -1 then m.deliver 13 else { m with p:=m.nx,nx := -1,spin:=true,pl:=4 }
def pass (v:V)(i:Nat):V:=
 let m:=v.mach i
 if m.pl=1 then v.turn i
 else if m.pl=5 then (v.spin 1).onM i fun m=>({ m with spin:=true }:Mh).steal v.P 1
 else if m.pl=8 then (v.spin (-1)).onM i fun m => { m with spin:=false,i:=0,pl:=9 }
 else if m.pl=12 then (v.spin 1).onM i fun m => { m with spin:=true,pl:=4 }
 else if m.pl=19 then (v.spin (-1)).onM i fun m => { m with spin:=false,pl:=21 }
 else if m.pl=16 then v.rise i
 else if m.pl=20 then (v.see ⟨2,m.got,i,m.p,0⟩).onM i fun m => { m with g:=m.got,got := -1,pl:=0 }
 else if m.pl=21 then ({ v with mc:=v.mc+1 }:V).onM i fun m => { m with pl:=if v.ms.getD v.spn 0=0 then 22 else m.back }
 else if m.pl=22 then (v.bothF v.spn fun x=>if x=0 then 1 else x).onM i fun m => { m with pl:=if v.ms.getD v.spn 0=0 then 23 else m.back }
 else if m.pl=24 then (v.wake m.tg).onM i fun m => { m with tg := -1,pl:=m.back }
 else if m.pl=26 then (v.see ⟨1,m.got,i,m.p,0⟩).onM i fun m => { m with back:=25,pl:=27 }
 else v
def bring(v:V)(i:Nat)(k g from':Int):V × Bool:=
 if g<0∨v.G≤g∨v.stat g≠from' then (v,false)
 else ((v.see ⟨k,g,i,(v.mach i).p,0⟩).onM i fun m => { m with got:=g,pl:=28 },true)
def act (v:V)(i:Nat)(s:St):V × Bool:=
 if s.act=0 then (v,true)
 else if s.act=1 then (((v.onM i fun m => { m with got:=m.g }).leave i 3 0).onM i fun m => { m with back:=1,pl:=27 },true)
 else if s.act=2 then ((v.leave i 4 0).onM i fun m => { m with pl:=1 },true)
 else if s.act=3 then ((v.leave i 7 0).onM i fun m => { m with pl:=1 },true)
 else if s.act=4 then v.bring i 0 s.x 0
 else if s.act=5 then v.bring i 1 s.x 3
 else if s.act=6 then (v.onM i fun m => { m with arg:=s.d,pl:=29 },true)
 else if s.act=7 then (if 0≤s.x∧s.x≤65535 then (v.onM i fun m => { m with arg:=s.x,pl:=30 },true) else (v,false))
 else (v,false)
def tell (v:V):V:=if v.sr.due∧v.id.po ≠ -1 then (v.putI { v.id with po := -1 }).wake v.id.po else v
def pickAt(v:V)(i:Nat)(s:St):V × Bool:=
 if (v.mach i).pl=0 then v.act i s
 else if (v.mach i).inn∨0≤(v.mach i).lock v.P then (v.locked i,true)
 else (v.pass i,true)
def pick (v:V)(s:St):V × Bool:=
 if s.a<0∨v.M≤s.a∨v.asleep s.a.toNat=true then (v,false) else v.pickAt s.a.toNat s
def step (v:V)(s:St):V × Bool:=
 if s.kd=0 then v.pick s
 else if s.kd=1 then ((v.putS (v.sr.tick s.d)).tell,true)
 else if s.kd=2 then
  if 0≤s.a∧s.a≤65535 then
   match v.sr.ready s.a with
   | none=>(v,false)
   | some t=>((v.putS t).tell,true)
  else (v,false)
 else (v,false)
def run (v:V):List St→V
 | []=>v
 | s :: l=>run (v.step s).1 l
def cnt (v:V):List St→Nat
 | []=>0
 | s :: l=>(if (v.step s).2 then 1 else 0)+cnt (v.step s).1 l
def new (P M G:Nat):V:=
 { P:=P,M:=M,G:=G,ms:=(List.replicate (2*(P+2)+1+M+G) 0).set (2*(P+2)+1+M) 1,mc:=1,ns:=(List.replicate (2*(P+2)+1+M+G) 0).set (2*(P+2)+1+M) 1,
   rs:=List.replicate P RV.empty,tu:=List.replicate P 0,qu := [0],sr:=⟨0, [],0, [], []⟩,
   id:=⟨(List.range P).map fun p=>decide (0<p), [],(List.range (M - 2)).map fun j=>((j+2:Nat):Int),if M≤1 then -1 else 1⟩,
   mm:=(List.range M).map fun i=>if i=0 then Mh.fresh 1 0 else Mh.fresh 16 (-1),lg := [⟨0,0, -1, -1,0⟩] }
end V
end Go.Proofs.YtkhigkcmgcafdaaGreatDoor.Y
namespace Go.Proofs.YtkhigkcmgcafdaaGreatDoor.Y
namespace Mh
def aft (m:Mh):Bool:=m.inn && decide (m.st=3)
def byAfter(m:Mh):Bool:=decide (m.after≠13)
def hasP (m:Mh):Bool:=
 if m.pl=8∨m.pl=9∨m.pl=10∨m.pl=14∨m.pl=15∨m.pl=16 then false
 else if m.pl=7 then !(m.aft && !m.yes)
 else if m.pl=11 then m.aft && m.yes
 else if m.pl=13 then m.aft && m.spin
 else if m.pl=25∨m.pl=26 then m.byAfter
 else if m.pl=21∨m.pl=22∨m.pl=23∨m.pl=24∨m.pl=27 then (if m.back=25 then m.byAfter else true)
 else true
def hasG (m:Mh):Bool:=
 if m.pl=0∨m.pl=28 then true
 else if m.pl=29 then !m.aft
 else if m.pl=30 then !(m.aft && decide (m.g = -1))
 else if m.pl=18∨m.pl=21∨m.pl=22∨m.pl=23∨m.pl=24 then decide (m.back=0)
 else false
def hasGot(m:Mh):Bool:=
 if m.pl=2∨m.pl=3∨m.pl=4∨m.pl=6∨m.pl=7∨m.pl=25 then m.aft && m.yes
 else if m.pl=17∨m.pl=19∨m.pl=20∨m.pl=26 then true
 else if m.pl=27∨m.pl=28 then !m.aft
 else if m.pl=18∨m.pl=21∨m.pl=22∨m.pl=23∨m.pl=24 then decide (m.back=20)
 else false
def mayRest(m:Mh):Bool:=
 if m.pl=4∨m.pl=6∨m.pl=7 then m.aft && m.yes
 else if m.pl=17∨m.pl=18 then true
 else if m.pl=28 then m.aft
 else false
def spinS(m:Mh):Bool:=
 if m.pl=4∨m.pl=17 then true
 else if m.pl=18 then decide (m.back=20) || !m.spin
 else if m.pl=6∨m.pl=7∨m.pl=8∨m.pl=19 then m.spin
 else if m.pl=13 then m.spin == (m.aft && decide (m.p ≠ -1))
 else !m.spin
def backOk(m:Mh):Bool:=
 if m.pl=17∨m.pl=19 then decide (m.back=20)
 else if m.pl=18 then decide (m.back=20∨m.back=0)
 else if m.pl=21∨m.pl=22∨m.pl=23∨m.pl=24 then decide (m.back=0∨m.back=1∨m.back=20∨m.back=25)
 else if m.pl=27 then decide (m.back=1∨m.back=25)
 else true
def afterOk(m:Mh):Bool:=
 if m.pl=25∨m.pl=26 then decide (m.after=1∨m.after=2∨m.after=13)
 else if m.pl=21∨m.pl=22∨m.pl=23∨m.pl=24∨m.pl=27 then decide (m.back=25→m.after=1∨m.after=2∨m.after=13)
 else true
def idl (m:Mh):Bool:=decide (m.pl=14∨m.pl=16) || (decide (m.pl=15) && !(m.aft && m.yes)) || (decide (m.pl=13) && m.aft && !m.spin)
def claim(m:Mh):Bool:=decide (m.pl=23) && !m.aft
def dlv (m:Mh):Bool:=decide (m.pl=25∨m.pl=26)
end Mh
structure Loc(P M G:Nat)(m:Mh):Prop where
 hp:if m.hasP then 0≤m.p∧m.p<P else m.p = -1
 hg:if m.hasG then 0≤m.g∧m.g<G else m.g = -1
 hgot:if m.hasGot then 0≤m.got∧m.got<G else m.got = -1
 hr:m.mayRest=false→m.rest = []
 hri:∀ x ∈ m.rest,0≤x∧x<G
 sp:m.spinS=true
 bk:m.backOk=true
 af:m.afterOk=true
 tg:if m.pl=24 then 0≤m.tg∧m.tg<M else if m.pl=23∧m.aft=true then m.tg = -1∨(0≤m.tg∧m.tg<M) else m.tg = -1
 nx:m.nx = -1∨((0≤m.nx∧m.nx<P)∧m.idl=true)
 ii:m.pl=6∨m.pl=9→0≤m.i∧m.i<P
 ar:m.pl=30→0≤m.arg∧m.arg≤65535
structure Sec(P:Nat)(m:Mh):Prop where
 pl:0≤m.pl∧m.pl<31
 si:m.inn=true→(m.st=1∨m.st=2∨m.st=3)∧0≤m.lock P∧m.sn=2*m.lock P∧m.sv=2*m.lock P+1
 so:m.inn=false→m.sn=0∧m.sv=0∧m.st=0∧m.tk=0∧m.tm=0
 t1:m.inn=true→m.st=1→m.tm=0
 t2:m.inn=true→m.st=2→m.tm=0∨(m.tm=1∧(m.pl=23∨m.pl=29∨m.pl=30))
structure Mok(P M G:Nat)(m:Mh):Prop where
 l:Loc P M G m
 s:Sec P m
section
variable {P M G:Nat}{m:Mh}
theorem loc_0(h:m.pl=0):Loc P M G m ↔ (0≤m.p∧m.p<P)∧(0≤m.g∧m.g<G)∧m.got = -1∧m.rest = []∧m.spin=false∧m.tg = -1∧m.nx = -1:=by
 constructor
 ·rintro⟨a1,a2,a3,a4,a5,a6,a7,a8,a9,a10,a11,a12⟩
  simp[Mh.hasP,Mh.hasG,Mh.hasGot,Mh.mayRest,Mh.spinS,Mh.backOk,Mh.afterOk,Mh.idl,Mh.byAfter,h]at a1 a2 a3 a4 a6 a7 a8 a9 a10 a11 a12
  first
   | (simp_all;done)
   | grind
 ·intro a
  refine⟨?_,?_,?_,?_,?_,?_,?_,?_,?_,?_,?_,?_⟩ <;> (try simp[Mh.hasP,Mh.hasG,Mh.hasGot,Mh.mayRest,Mh.spinS,Mh.backOk,Mh.afterOk,Mh.idl,Mh.byAfter,h]) <;> (first | (simp_all;done)|grind)
theorem loc_1(h:m.pl=1):Loc P M G m ↔ (0≤m.p∧m.p<P)∧m.g = -1∧m.got = -1∧m.rest = []∧m.spin=false∧m.tg = -1∧m.nx = -1:=by
 constructor
 ·rintro⟨a1,a2,a3,a4,a5,a6,a7,a8,a9,a10,a11,a12⟩
  simp[Mh.hasP,Mh.hasG,Mh.hasGot,Mh.mayRest,Mh.spinS,Mh.backOk,Mh.afterOk,Mh.idl,Mh.byAfter,h]at a1 a2 a3 a4 a6 a7 a8 a9 a10 a11 a12
  first
   | (simp_all;done)
   | grind
 ·intro a
  refine⟨?_,?_,?_,?_,?_,?_,?_,?_,?_,?_,?_,?_⟩ <;> (try simp[Mh.hasP,Mh.hasG,Mh.hasGot,Mh.mayRest,Mh.spinS,Mh.backOk,Mh.afterOk,Mh.idl,Mh.byAfter,h]) <;> (first | (simp_all;done)|grind)
theorem loc_2(h:m.pl=2):Loc P M G m ↔ (0≤m.p∧m.p<P)∧m.g = -1∧(if (m.aft && m.yes) then (0≤m.got∧m.got<G) else m.got = -1)∧m.rest = []∧m.spin=false∧m.tg = -1∧m.nx = -1:=by
 constructor
 ·rintro⟨a1,a2,a3,a4,a5,a6,a7,a8,a9,a10,a11,a12⟩
  simp[Mh.hasP,Mh.hasG,Mh.hasGot,Mh.mayRest,Mh.spinS,Mh.backOk,Mh.afterOk,Mh.idl,Mh.byAfter,h]at a1 a2 a3 a4 a6 a7 a8 a9 a10 a11 a12
  first
   | (simp_all;done)
   | grind
 ·intro a
  refine⟨?_,?_,?_,?_,?_,?_,?_,?_,?_,?_,?_,?_⟩ <;> (try simp[Mh.hasP,Mh.hasG,Mh.hasGot,Mh.mayRest,Mh.spinS,Mh.backOk,Mh.afterOk,Mh.idl,Mh.byAfter,h]) <;> (first | (simp_all;done)|grind)
theorem loc_3(h:m.pl=3):Loc P M G m ↔ (0≤m.p∧m.p<P)∧m.g = -1∧(if (m.aft && m.yes) then (0≤m.got∧m.got<G) else m.got = -1)∧m.rest = []∧m.spin=false∧m.tg = -1∧m.nx = -1:=by
 constructor
 ·rintro⟨a1,a2,a3,a4,a5,a6,a7,a8,a9,a10,a11,a12⟩
  simp[Mh.hasP,Mh.hasG,Mh.hasGot,Mh.mayRest,Mh.spinS,Mh.backOk,Mh.afterOk,Mh.idl,Mh.byAfter,h]at a1 a2 a3 a4 a6 a7 a8 a9 a10 a11 a12
  first
   | (simp_all;done)
   | grind
 ·intro a
  refine⟨?_,?_,?_,?_,?_,?_,?_,?_,?_,?_,?_,?_⟩ <;> (try simp[Mh.hasP,Mh.hasG,Mh.hasGot,Mh.mayRest,Mh.spinS,Mh.backOk,Mh.afterOk,Mh.idl,Mh.byAfter,h]) <;> (first | (simp_all;done)|grind)
theorem loc_4(h:m.pl=4):Loc P M G m ↔ (0≤m.p∧m.p<P)∧m.g = -1∧(if (m.aft && m.yes) then (0≤m.got∧m.got<G) else m.got = -1)∧((m.aft && m.yes)=false→m.rest = [])∧(∀ x ∈ m.rest,0≤x∧x<G)∧m.tg = -1∧m.nx = -1:=by
 constructor
 ·rintro⟨a1,a2,a3,a4,a5,a6,a7,a8,a9,a10,a11,a12⟩
  simp[Mh.hasP,Mh.hasG,Mh.hasGot,Mh.mayRest,Mh.spinS,Mh.backOk,Mh.afterOk,Mh.idl,Mh.byAfter,h]at a1 a2 a3 a4 a6 a7 a8 a9 a10 a11 a12
  first
   | (simp_all;done)
   | grind
 ·intro a
  refine⟨?_,?_,?_,?_,?_,?_,?_,?_,?_,?_,?_,?_⟩ <;> (try simp[Mh.hasP,Mh.hasG,Mh.hasGot,Mh.mayRest,Mh.spinS,Mh.backOk,Mh.afterOk,Mh.idl,Mh.byAfter,h]) <;> (first | (simp_all;done)|grind)
theorem loc_5(h:m.pl=5):Loc P M G m ↔ (0≤m.p∧m.p<P)∧m.g = -1∧m.got = -1∧m.rest = []∧m.spin=false∧m.tg = -1∧m.nx = -1:=by
 constructor
 ·rintro⟨a1,a2,a3,a4,a5,a6,a7,a8,a9,a10,a11,a12⟩
  simp[Mh.hasP,Mh.hasG,Mh.hasGot,Mh.mayRest,Mh.spinS,Mh.backOk,Mh.afterOk,Mh.idl,Mh.byAfter,h]at a1 a2 a3 a4 a6 a7 a8 a9 a10 a11 a12
  first
   | (simp_all;done)
   | grind
 ·intro a
  refine⟨?_,?_,?_,?_,?_,?_,?_,?_,?_,?_,?_,?_⟩ <;> (try simp[Mh.hasP,Mh.hasG,Mh.hasGot,Mh.mayRest,Mh.spinS,Mh.backOk,Mh.afterOk,Mh.idl,Mh.byAfter,h]) <;> (first | (simp_all;done)|grind)
theorem loc_6(h:m.pl=6):Loc P M G m ↔ (0≤m.p∧m.p<P)∧m.g = -1∧(if (m.aft && m.yes) then (0≤m.got∧m.got<G) else m.got = -1)∧((m.aft && m.yes)=false→m.rest = [])∧(∀ x ∈ m.rest,0≤x∧x<G)∧m.spin=true∧(0≤m.i∧m.i<P)∧m.tg = -1∧m.nx = -1:=by
 constructor
 ·rintro⟨a1,a2,a3,a4,a5,a6,a7,a8,a9,a10,a11,a12⟩
  simp[Mh.hasP,Mh.hasG,Mh.hasGot,Mh.mayRest,Mh.spinS,Mh.backOk,Mh.afterOk,Mh.idl,Mh.byAfter,h]at a1 a2 a3 a4 a6 a7 a8 a9 a10 a11 a12
  first
   | (simp_all;done)
   | grind
 ·intro a
  refine⟨?_,?_,?_,?_,?_,?_,?_,?_,?_,?_,?_,?_⟩ <;> (try simp[Mh.hasP,Mh.hasG,Mh.hasGot,Mh.mayRest,Mh.spinS,Mh.backOk,Mh.afterOk,Mh.idl,Mh.byAfter,h]) <;> (first | (simp_all;done)|grind)
theorem loc_7(h:m.pl=7):Loc P M G m ↔ (if m.aft && !m.yes then m.p = -1 else 0≤m.p∧m.p<P)∧m.g = -1∧(if (m.aft && m.yes) then (0≤m.got∧m.got<G) else m.got = -1)∧((m.aft && m.yes)=false→m.rest = [])∧(∀ x ∈ m.rest,0≤x∧x<G)∧m.spin=true∧m.tg = -1∧m.nx = -1:=by
 constructor
 ·rintro⟨a1,a2,a3,a4,a5,a6,a7,a8,a9,a10,a11,a12⟩
  simp[Mh.hasP,Mh.hasG,Mh.hasGot,Mh.mayRest,Mh.spinS,Mh.backOk,Mh.afterOk,Mh.idl,Mh.byAfter,h]at a1 a2 a3 a4 a6 a7 a8 a9 a10 a11 a12
  first
   | (simp_all;done)
   | grind
 ·intro a
  refine⟨?_,?_,?_,?_,?_,?_,?_,?_,?_,?_,?_,?_⟩ <;> (try simp[Mh.hasP,Mh.hasG,Mh.hasGot,Mh.mayRest,Mh.spinS,Mh.backOk,Mh.afterOk,Mh.idl,Mh.byAfter,h]) <;> (first | (simp_all;done)|grind)
theorem loc_8(h:m.pl=8):Loc P M G m ↔ m.p = -1∧m.g = -1∧m.got = -1∧m.rest = []∧m.spin=true∧m.tg = -1∧m.nx = -1:=by
 constructor
 ·rintro⟨a1,a2,a3,a4,a5,a6,a7,a8,a9,a10,a11,a12⟩
  simp[Mh.hasP,Mh.hasG,Mh.hasGot,Mh.mayRest,Mh.spinS,Mh.backOk,Mh.afterOk,Mh.idl,Mh.byAfter,h]at a1 a2 a3 a4 a6 a7 a8 a9 a10 a11 a12
  first
   | (simp_all;done)
   | grind
 ·intro a
  refine⟨?_,?_,?_,?_,?_,?_,?_,?_,?_,?_,?_,?_⟩ <;> (try simp[Mh.hasP,Mh.hasG,Mh.hasGot,Mh.mayRest,Mh.spinS,Mh.backOk,Mh.afterOk,Mh.idl,Mh.byAfter,h]) <;> (first | (simp_all;done)|grind)
theorem loc_9(h:m.pl=9):Loc P M G m ↔ m.p = -1∧m.g = -1∧m.got = -1∧m.rest = []∧m.spin=false∧(0≤m.i∧m.i<P)∧m.tg = -1∧m.nx = -1:=by
 constructor
 ·rintro⟨a1,a2,a3,a4,a5,a6,a7,a8,a9,a10,a11,a12⟩
  simp[Mh.hasP,Mh.hasG,Mh.hasGot,Mh.mayRest,Mh.spinS,Mh.backOk,Mh.afterOk,Mh.idl,Mh.byAfter,h]at a1 a2 a3 a4 a6 a7 a8 a9 a10 a11 a12
  first
   | (simp_all;done)
   | grind
 ·intro a
  refine⟨?_,?_,?_,?_,?_,?_,?_,?_,?_,?_,?_,?_⟩ <;> (try simp[Mh.hasP,Mh.hasG,Mh.hasGot,Mh.mayRest,Mh.spinS,Mh.backOk,Mh.afterOk,Mh.idl,Mh.byAfter,h]) <;> (first | (simp_all;done)|grind)
theorem loc_10(h:m.pl=10):Loc P M G m ↔ m.p = -1∧m.g = -1∧m.got = -1∧m.rest = []∧m.spin=false∧m.tg = -1∧m.nx = -1:=by
 constructor
 ·rintro⟨a1,a2,a3,a4,a5,a6,a7,a8,a9,a10,a11,a12⟩
  simp[Mh.hasP,Mh.hasG,Mh.hasGot,Mh.mayRest,Mh.spinS,Mh.backOk,Mh.afterOk,Mh.idl,Mh.byAfter,h]at a1 a2 a3 a4 a6 a7 a8 a9 a10 a11 a12
  first
   | (simp_all;done)
   | grind
 ·intro a
  refine⟨?_,?_,?_,?_,?_,?_,?_,?_,?_,?_,?_,?_⟩ <;> (try simp[Mh.hasP,Mh.hasG,Mh.hasGot,Mh.mayRest,Mh.spinS,Mh.backOk,Mh.afterOk,Mh.idl,Mh.byAfter,h]) <;> (first | (simp_all;done)|grind)
theorem loc_11(h:m.pl=11):Loc P M G m ↔ (if (m.aft && m.yes) then 0≤m.p∧m.p<P else m.p = -1)∧m.g = -1∧m.got = -1∧m.rest = []∧m.spin=false∧m.tg = -1∧m.nx = -1:=by
 constructor
 ·rintro⟨a1,a2,a3,a4,a5,a6,a7,a8,a9,a10,a11,a12⟩
  simp[Mh.hasP,Mh.hasG,Mh.hasGot,Mh.mayRest,Mh.spinS,Mh.backOk,Mh.afterOk,Mh.idl,Mh.byAfter,h]at a1 a2 a3 a4 a6 a7 a8 a9 a10 a11 a12
  first
   | (simp_all;done)
   | grind
 ·intro a
  refine⟨?_,?_,?_,?_,?_,?_,?_,?_,?_,?_,?_,?_⟩ <;> (try simp[Mh.hasP,Mh.hasG,Mh.hasGot,Mh.mayRest,Mh.spinS,Mh.backOk,Mh.afterOk,Mh.idl,Mh.byAfter,h]) <;> (first | (simp_all;done)|grind)
theorem loc_12(h:m.pl=12):Loc P M G m ↔ (0≤m.p∧m.p<P)∧m.g = -1∧m.got = -1∧m.rest = []∧m.spin=false∧m.tg = -1∧m.nx = -1:=by
 constructor
 ·rintro⟨a1,a2,a3,a4,a5,a6,a7,a8,a9,a10,a11,a12⟩
  simp[Mh.hasP,Mh.hasG,Mh.hasGot,Mh.mayRest,Mh.spinS,Mh.backOk,Mh.afterOk,Mh.idl,Mh.byAfter,h]at a1 a2 a3 a4 a6 a7 a8 a9 a10 a11 a12
  first
   | (simp_all;done)
   | grind
 ·intro a
  refine⟨?_,?_,?_,?_,?_,?_,?_,?_,?_,?_,?_,?_⟩ <;> (try simp[Mh.hasP,Mh.hasG,Mh.hasGot,Mh.mayRest,Mh.spinS,Mh.backOk,Mh.afterOk,Mh.idl,Mh.byAfter,h]) <;> (first | (simp_all;done)|grind)
theorem loc_13(h:m.pl=13):Loc P M G m ↔ (if m.aft && m.spin then 0≤m.p∧m.p<P else m.p = -1)∧m.g = -1∧m.got = -1∧m.rest = []∧(m.aft=false→m.spin=false)∧(m.nx = -1∨((0≤m.nx∧m.nx<P)∧m.aft=true∧m.spin=false))∧m.tg = -1:=by
 constructor
 ·rintro⟨a1,a2,a3,a4,a5,a6,a7,a8,a9,a10,a11,a12⟩
  simp[Mh.hasP,Mh.hasG,Mh.hasGot,Mh.mayRest,Mh.spinS,Mh.backOk,Mh.afterOk,Mh.idl,Mh.byAfter,h]at a1 a2 a3 a4 a6 a7 a8 a9 a10 a11 a12
  first
   | (simp_all;done)
   | grind
 ·intro a
  refine⟨?_,?_,?_,?_,?_,?_,?_,?_,?_,?_,?_,?_⟩ <;> (try simp[Mh.hasP,Mh.hasG,Mh.hasGot,Mh.mayRest,Mh.spinS,Mh.backOk,Mh.afterOk,Mh.idl,Mh.byAfter,h]) <;> (first | (simp_all;done)|grind)
theorem loc_14(h:m.pl=14):Loc P M G m ↔ m.p = -1∧m.g = -1∧m.got = -1∧m.rest = []∧m.spin=false∧(m.nx = -1∨(0≤m.nx∧m.nx<P))∧m.tg = -1:=by
 constructor
 ·rintro⟨a1,a2,a3,a4,a5,a6,a7,a8,a9,a10,a11,a12⟩
  simp[Mh.hasP,Mh.hasG,Mh.hasGot,Mh.mayRest,Mh.spinS,Mh.backOk,Mh.afterOk,Mh.idl,Mh.byAfter,h]at a1 a2 a3 a4 a6 a7 a8 a9 a10 a11 a12
  first
   | (simp_all;done)
   | grind
 ·intro a
  refine⟨?_,?_,?_,?_,?_,?_,?_,?_,?_,?_,?_,?_⟩ <;> (try simp[Mh.hasP,Mh.hasG,Mh.hasGot,Mh.mayRest,Mh.spinS,Mh.backOk,Mh.afterOk,Mh.idl,Mh.byAfter,h]) <;> (first | (simp_all;done)|grind)
theorem loc_15(h:m.pl=15):Loc P M G m ↔ m.p = -1∧m.g = -1∧m.got = -1∧m.rest = []∧m.spin=false∧(m.nx = -1∨((0≤m.nx∧m.nx<P)∧(m.aft=true→m.yes=false)))∧m.tg = -1:=by
 constructor
 ·rintro⟨a1,a2,a3,a4,a5,a6,a7,a8,a9,a10,a11,a12⟩
  simp[Mh.hasP,Mh.hasG,Mh.hasGot,Mh.mayRest,Mh.spinS,Mh.backOk,Mh.afterOk,Mh.idl,Mh.byAfter,h]at a1 a2 a3 a4 a6 a7 a8 a9 a10 a11 a12
  first
   | (simp_all;done)
   | grind
 ·intro a
  refine⟨?_,?_,?_,?_,?_,?_,?_,?_,?_,?_,?_,?_⟩ <;> (try simp[Mh.hasP,Mh.hasG,Mh.hasGot,Mh.mayRest,Mh.spinS,Mh.backOk,Mh.afterOk,Mh.idl,Mh.byAfter,h]) <;> (first | (simp_all;done)|grind)
theorem loc_16(h:m.pl=16):Loc P M G m ↔ m.p = -1∧m.g = -1∧m.got = -1∧m.rest = []∧m.spin=false∧(m.nx = -1∨(0≤m.nx∧m.nx<P))∧m.tg = -1:=by
 constructor
 ·rintro⟨a1,a2,a3,a4,a5,a6,a7,a8,a9,a10,a11,a12⟩
  simp[Mh.hasP,Mh.hasG,Mh.hasGot,Mh.mayRest,Mh.spinS,Mh.backOk,Mh.afterOk,Mh.idl,Mh.byAfter,h]at a1 a2 a3 a4 a6 a7 a8 a9 a10 a11 a12
  first
   | (simp_all;done)
   | grind
 ·intro a
  refine⟨?_,?_,?_,?_,?_,?_,?_,?_,?_,?_,?_,?_⟩ <;> (try simp[Mh.hasP,Mh.hasG,Mh.hasGot,Mh.mayRest,Mh.spinS,Mh.backOk,Mh.afterOk,Mh.idl,Mh.byAfter,h]) <;> (first | (simp_all;done)|grind)
theorem loc_17(h:m.pl=17):Loc P M G m ↔ (0≤m.p∧m.p<P)∧m.g = -1∧(0≤m.got∧m.got<G)∧(∀ x ∈ m.rest,0≤x∧x<G)∧m.back=20∧m.tg = -1∧m.nx = -1:=by
 constructor
 ·rintro⟨a1,a2,a3,a4,a5,a6,a7,a8,a9,a10,a11,a12⟩
  simp[Mh.hasP,Mh.hasG,Mh.hasGot,Mh.mayRest,Mh.spinS,Mh.backOk,Mh.afterOk,Mh.idl,Mh.byAfter,h]at a1 a2 a3 a4 a6 a7 a8 a9 a10 a11 a12
  first
   | (simp_all;done)
   | grind
 ·intro a
  refine⟨?_,?_,?_,?_,?_,?_,?_,?_,?_,?_,?_,?_⟩ <;> (try simp[Mh.hasP,Mh.hasG,Mh.hasGot,Mh.mayRest,Mh.spinS,Mh.backOk,Mh.afterOk,Mh.idl,Mh.byAfter,h]) <;> (first | (simp_all;done)|grind)
theorem loc_18(h:m.pl=18):Loc P M G m ↔ (0≤m.p∧m.p<P)∧(m.back=20∨m.back=0)∧(if m.back=0 then 0≤m.g∧m.g<G else m.g = -1)∧(if m.back=20 then 0≤m.got∧m.got<G else m.got = -1)∧(∀ x ∈ m.rest,0≤x∧x<G)∧(m.back=0→m.spin=false)∧m.tg = -1∧m.nx = -1:=by
 constructor
 ·rintro⟨a1,a2,a3,a4,a5,a6,a7,a8,a9,a10,a11,a12⟩
  simp[Mh.hasP,Mh.hasG,Mh.hasGot,Mh.mayRest,Mh.spinS,Mh.backOk,Mh.afterOk,Mh.idl,Mh.byAfter,h]at a1 a2 a3 a4 a6 a7 a8 a9 a10 a11 a12
  first
   | (simp_all;done)
   | grind
 ·intro a
  refine⟨?_,?_,?_,?_,?_,?_,?_,?_,?_,?_,?_,?_⟩ <;> (try simp[Mh.hasP,Mh.hasG,Mh.hasGot,Mh.mayRest,Mh.spinS,Mh.backOk,Mh.afterOk,Mh.idl,Mh.byAfter,h]) <;> (first | (simp_all;done)|grind)
theorem loc_19(h:m.pl=19):Loc P M G m ↔ (0≤m.p∧m.p<P)∧m.g = -1∧(0≤m.got∧m.got<G)∧m.rest = []∧m.spin=true∧m.back=20∧m.tg = -1∧m.nx = -1:=by
 constructor
 ·rintro⟨a1,a2,a3,a4,a5,a6,a7,a8,a9,a10,a11,a12⟩
  simp[Mh.hasP,Mh.hasG,Mh.hasGot,Mh.mayRest,Mh.spinS,Mh.backOk,Mh.afterOk,Mh.idl,Mh.byAfter,h]at a1 a2 a3 a4 a6 a7 a8 a9 a10 a11 a12
  first
   | (simp_all;done)
   | grind
 ·intro a
  refine⟨?_,?_,?_,?_,?_,?_,?_,?_,?_,?_,?_,?_⟩ <;> (try simp[Mh.hasP,Mh.hasG,Mh.hasGot,Mh.mayRest,Mh.spinS,Mh.backOk,Mh.afterOk,Mh.idl,Mh.byAfter,h]) <;> (first | (simp_all;done)|grind)
theorem loc_20(h:m.pl=20):Loc P M G m ↔ (0≤m.p∧m.p<P)∧m.g = -1∧(0≤m.got∧m.got<G)∧m.rest = []∧m.spin=false∧m.tg = -1∧m.nx = -1:=by
 constructor
 ·rintro⟨a1,a2,a3,a4,a5,a6,a7,a8,a9,a10,a11,a12⟩
  simp[Mh.hasP,Mh.hasG,Mh.hasGot,Mh.mayRest,Mh.spinS,Mh.backOk,Mh.afterOk,Mh.idl,Mh.byAfter,h]at a1 a2 a3 a4 a6 a7 a8 a9 a10 a11 a12
  first
   | (simp_all;done)
   | grind
 ·intro a
  refine⟨?_,?_,?_,?_,?_,?_,?_,?_,?_,?_,?_,?_⟩ <;> (try simp[Mh.hasP,Mh.hasG,Mh.hasGot,Mh.mayRest,Mh.spinS,Mh.backOk,Mh.afterOk,Mh.idl,Mh.byAfter,h]) <;> (first | (simp_all;done)|grind)
theorem loc_21(h:m.pl=21):Loc P M G m ↔ (if m.back=25∧m.after=13 then m.p = -1 else 0≤m.p∧m.p<P)∧(m.back=0∨m.back=1∨m.back=20∨m.back=25)∧(m.back=25→m.after=1∨m.after=2∨m.after=13)∧(if m.back=0 then 0≤m.g∧m.g<G else m.g = -1)∧(if m.back=20 then 0≤m.got∧m.got<G else m.got = -1)∧m.rest = []∧m.spin=false∧m.tg = -1∧m.nx = -1:=by
 constructor
 ·rintro⟨a1,a2,a3,a4,a5,a6,a7,a8,a9,a10,a11,a12⟩
  simp[Mh.hasP,Mh.hasG,Mh.hasGot,Mh.mayRest,Mh.spinS,Mh.backOk,Mh.afterOk,Mh.idl,Mh.byAfter,h]at a1 a2 a3 a4 a6 a7 a8 a9 a10 a11 a12
  first
   | (simp_all;done)
   | grind
 ·intro a
  refine⟨?_,?_,?_,?_,?_,?_,?_,?_,?_,?_,?_,?_⟩ <;> (try simp[Mh.hasP,Mh.hasG,Mh.hasGot,Mh.mayRest,Mh.spinS,Mh.backOk,Mh.afterOk,Mh.idl,Mh.byAfter,h]) <;> (first | (simp_all;done)|grind)
theorem loc_22(h:m.pl=22):Loc P M G m ↔ (if m.back=25∧m.after=13 then m.p = -1 else 0≤m.p∧m.p<P)∧(m.back=0∨m.back=1∨m.back=20∨m.back=25)∧(m.back=25→m.after=1∨m.after=2∨m.after=13)∧(if m.back=0 then 0≤m.g∧m.g<G else m.g = -1)∧(if m.back=20 then 0≤m.got∧m.got<G else m.got = -1)∧m.rest = []∧m.spin=false∧m.tg = -1∧m.nx = -1:=by
 constructor
 ·rintro⟨a1,a2,a3,a4,a5,a6,a7,a8,a9,a10,a11,a12⟩
  simp[Mh.hasP,Mh.hasG,Mh.hasGot,Mh.mayRest,Mh.spinS,Mh.backOk,Mh.afterOk,Mh.idl,Mh.byAfter,h]at a1 a2 a3 a4 a6 a7 a8 a9 a10 a11 a12
  first
   | (simp_all;done)
   | grind
 ·intro a
  refine⟨?_,?_,?_,?_,?_,?_,?_,?_,?_,?_,?_,?_⟩ <;> (try simp[Mh.hasP,Mh.hasG,Mh.hasGot,Mh.mayRest,Mh.spinS,Mh.backOk,Mh.afterOk,Mh.idl,Mh.byAfter,h]) <;> (first | (simp_all;done)|grind)
theorem loc_23(h:m.pl=23):Loc P M G m ↔ (if m.back=25∧m.after=13 then m.p = -1 else 0≤m.p∧m.p<P)∧(m.back=0∨m.back=1∨m.back=20∨m.back=25)∧(m.back=25→m.after=1∨m.after=2∨m.after=13)∧(if m.back=0 then 0≤m.g∧m.g<G else m.g = -1)∧(if m.back=20 then 0≤m.got∧m.got<G else m.got = -1)∧m.rest = []∧m.spin=false∧(if m.aft=true then m.tg = -1∨(0≤m.tg∧m.tg<M) else m.tg = -1)∧m.nx = -1:=by
 constructor
 ·rintro⟨a1,a2,a3,a4,a5,a6,a7,a8,a9,a10,a11,a12⟩
  simp[Mh.hasP,Mh.hasG,Mh.hasGot,Mh.mayRest,Mh.spinS,Mh.backOk,Mh.afterOk,Mh.idl,Mh.byAfter,h]at a1 a2 a3 a4 a6 a7 a8 a9 a10 a11 a12
  first
   | (simp_all;done)
   | grind
 ·intro a
  refine⟨?_,?_,?_,?_,?_,?_,?_,?_,?_,?_,?_,?_⟩ <;> (try simp[Mh.hasP,Mh.hasG,Mh.hasGot,Mh.mayRest,Mh.spinS,Mh.backOk,Mh.afterOk,Mh.idl,Mh.byAfter,h]) <;> (first | (simp_all;done)|grind)
theorem loc_24(h:m.pl=24):Loc P M G m ↔ (if m.back=25∧m.after=13 then m.p = -1 else 0≤m.p∧m.p<P)∧(m.back=0∨m.back=1∨m.back=20∨m.back=25)∧(m.back=25→m.after=1∨m.after=2∨m.after=13)∧(if m.back=0 then 0≤m.g∧m.g<G else m.g = -1)∧(if m.back=20 then 0≤m.got∧m.got<G else m.got = -1)∧m.rest = []∧m.spin=false∧(0≤m.tg∧m.tg<M)∧m.nx = -1:=by
 constructor
 ·rintro⟨a1,a2,a3,a4,a5,a6,a7,a8,a9,a10,a11,a12⟩
  simp[Mh.hasP,Mh.hasG,Mh.hasGot,Mh.mayRest,Mh.spinS,Mh.backOk,Mh.afterOk,Mh.idl,Mh.byAfter,h]at a1 a2 a3 a4 a6 a7 a8 a9 a10 a11 a12
  first
   | (simp_all;done)
   | grind
 ·intro a
  refine⟨?_,?_,?_,?_,?_,?_,?_,?_,?_,?_,?_,?_⟩ <;> (try simp[Mh.hasP,Mh.hasG,Mh.hasGot,Mh.mayRest,Mh.spinS,Mh.backOk,Mh.afterOk,Mh.idl,Mh.byAfter,h]) <;> (first | (simp_all;done)|grind)
theorem loc_25(h:m.pl=25):Loc P M G m ↔ (if m.after=13 then m.p = -1 else 0≤m.p∧m.p<P)∧(m.after=1∨m.after=2∨m.after=13)∧m.g = -1∧(if (m.aft && m.yes) then (0≤m.got∧m.got<G) else m.got = -1)∧m.rest = []∧m.spin=false∧m.tg = -1∧m.nx = -1:=by
 constructor
 ·rintro⟨a1,a2,a3,a4,a5,a6,a7,a8,a9,a10,a11,a12⟩
  simp[Mh.hasP,Mh.hasG,Mh.hasGot,Mh.mayRest,Mh.spinS,Mh.backOk,Mh.afterOk,Mh.idl,Mh.byAfter,h]at a1 a2 a3 a4 a6 a7 a8 a9 a10 a11 a12
  first
   | (simp_all;done)
   | grind
 ·intro a
  refine⟨?_,?_,?_,?_,?_,?_,?_,?_,?_,?_,?_,?_⟩ <;> (try simp[Mh.hasP,Mh.hasG,Mh.hasGot,Mh.mayRest,Mh.spinS,Mh.backOk,Mh.afterOk,Mh.idl,Mh.byAfter,h]) <;> (first | (simp_all;done)|grind)
theorem loc_26(h:m.pl=26):Loc P M G m ↔ (if m.after=13 then m.p = -1 else 0≤m.p∧m.p<P)∧(m.after=1∨m.after=2∨m.after=13)∧m.g = -1∧(0≤m.got∧m.got<G)∧m.rest = []∧m.spin=false∧m.tg = -1∧m.nx = -1:=by
 constructor
 ·rintro⟨a1,a2,a3,a4,a5,a6,a7,a8,a9,a10,a11,a12⟩
  simp[Mh.hasP,Mh.hasG,Mh.hasGot,Mh.mayRest,Mh.spinS,Mh.backOk,Mh.afterOk,Mh.idl,Mh.byAfter,h]at a1 a2 a3 a4 a6 a7 a8 a9 a10 a11 a12
  first
   | (simp_all;done)
   | grind
 ·intro a
  refine⟨?_,?_,?_,?_,?_,?_,?_,?_,?_,?_,?_,?_⟩ <;> (try simp[Mh.hasP,Mh.hasG,Mh.hasGot,Mh.mayRest,Mh.spinS,Mh.backOk,Mh.afterOk,Mh.idl,Mh.byAfter,h]) <;> (first | (simp_all;done)|grind)
theorem loc_27(h:m.pl=27):Loc P M G m ↔ (if m.back=25∧m.after=13 then m.p = -1 else 0≤m.p∧m.p<P)∧(m.back=1∨m.back=25)∧(m.back=25→m.after=1∨m.after=2∨m.after=13)∧m.g = -1∧(if m.aft=true then m.got = -1 else 0≤m.got∧m.got<G)∧m.rest = []∧m.spin=false∧m.tg = -1∧m.nx = -1:=by
 constructor
 ·rintro⟨a1,a2,a3,a4,a5,a6,a7,a8,a9,a10,a11,a12⟩
  simp[Mh.hasP,Mh.hasG,Mh.hasGot,Mh.mayRest,Mh.spinS,Mh.backOk,Mh.afterOk,Mh.idl,Mh.byAfter,h]at a1 a2 a3 a4 a6 a7 a8 a9 a10 a11 a12
  first
   | (simp_all;done)
   | grind
 ·intro a
  refine⟨?_,?_,?_,?_,?_,?_,?_,?_,?_,?_,?_,?_⟩ <;> (try simp[Mh.hasP,Mh.hasG,Mh.hasGot,Mh.mayRest,Mh.spinS,Mh.backOk,Mh.afterOk,Mh.idl,Mh.byAfter,h]) <;> (first | (simp_all;done)|grind)
theorem loc_28(h:m.pl=28):Loc P M G m ↔ (0≤m.p∧m.p<P)∧(0≤m.g∧m.g<G)∧(if m.aft=true then m.got = -1 else 0≤m.got∧m.got<G)∧(m.aft=false→m.rest = [])∧(∀ x ∈ m.rest,0≤x∧x<G)∧m.spin=false∧m.tg = -1∧m.nx = -1:=by
 constructor
 ·rintro⟨a1,a2,a3,a4,a5,a6,a7,a8,a9,a10,a11,a12⟩
  simp[Mh.hasP,Mh.hasG,Mh.hasGot,Mh.mayRest,Mh.spinS,Mh.backOk,Mh.afterOk,Mh.idl,Mh.byAfter,h]at a1 a2 a3 a4 a6 a7 a8 a9 a10 a11 a12
  first
   | (simp_all;done)
   | grind
 ·intro a
  refine⟨?_,?_,?_,?_,?_,?_,?_,?_,?_,?_,?_,?_⟩ <;> (try simp[Mh.hasP,Mh.hasG,Mh.hasGot,Mh.mayRest,Mh.spinS,Mh.backOk,Mh.afterOk,Mh.idl,Mh.byAfter,h]) <;> (first | (simp_all;done)|grind)
theorem loc_29(h:m.pl=29):Loc P M G m ↔ (0≤m.p∧m.p<P)∧(if m.aft=true then m.g = -1 else 0≤m.g∧m.g<G)∧m.got = -1∧m.rest = []∧m.spin=false∧m.tg = -1∧m.nx = -1:=by
 constructor
 ·rintro⟨a1,a2,a3,a4,a5,a6,a7,a8,a9,a10,a11,a12⟩
  simp[Mh.hasP,Mh.hasG,Mh.hasGot,Mh.mayRest,Mh.spinS,Mh.backOk,Mh.afterOk,Mh.idl,Mh.byAfter,h]at a1 a2 a3 a4 a6 a7 a8 a9 a10 a11 a12
  first
   | (simp_all;done)
   | grind
 ·intro a
  refine⟨?_,?_,?_,?_,?_,?_,?_,?_,?_,?_,?_,?_⟩ <;> (try simp[Mh.hasP,Mh.hasG,Mh.hasGot,Mh.mayRest,Mh.spinS,Mh.backOk,Mh.afterOk,Mh.idl,Mh.byAfter,h]) <;> (first | (simp_all;done)|grind)
theorem loc_30(h:m.pl=30):Loc P M G m ↔ (0≤m.p∧m.p<P)∧(if m.aft=true∧m.g = -1 then True else 0≤m.g∧m.g<G)∧m.got = -1∧m.rest = []∧m.spin=false∧(0≤m.arg∧m.arg≤65535)∧m.tg = -1∧m.nx = -1:=by
 constructor
 ·rintro⟨a1,a2,a3,a4,a5,a6,a7,a8,a9,a10,a11,a12⟩
  simp[Mh.hasP,Mh.hasG,Mh.hasGot,Mh.mayRest,Mh.spinS,Mh.backOk,Mh.afterOk,Mh.idl,Mh.byAfter,h]at a1 a2 a3 a4 a6 a7 a8 a9 a10 a11 a12
  first
   | (simp_all;done)
   | grind
 ·intro a
  refine⟨?_,?_,?_,?_,?_,?_,?_,?_,?_,?_,?_,?_⟩ <;> (try simp[Mh.hasP,Mh.hasG,Mh.hasGot,Mh.mayRest,Mh.spinS,Mh.backOk,Mh.afterOk,Mh.idl,Mh.byAfter,h]) <;> (first | (simp_all;done)|grind)
end
section
variable {P M G:Nat}{m m':Mh}
theorem Sec.do3(h:Sec P m)(hi:m.inn=true)(ep:m'.pl=m.pl)(ei:m'.inn=true)(es:m'.st=3)(e1:m'.sn=m.sn)(e2:m'.sv=m.sv)(el:m'.lock P=m.lock P):Sec P m':=by
 obtain⟨a1,a2,a3,a4,a5⟩:=h
 have:=a2 hi
 refine⟨by rw[ep];exact a1,fun _=>⟨.inr (.inr es),by rw[el];exact this.2.1,by rw[e1,el];exact this.2.2.1,by rw[e2,el];exact this.2.2.2⟩,fun e=>by simp[ei]at e,fun _ e=>by omega,fun _ e=>by omega⟩
theorem Sec.do2(h:Sec P m)(hi:m.inn=true)(hk:m.pl=23∨m.pl=29∨m.pl=30)(ep:m'.pl=m.pl)(ei:m'.inn=true)(es:m'.st=2)(et:m'.tm=1)(e1:m'.sn=m.sn)(e2:m'.sv=m.sv)(el:m'.lock P=m.lock P):Sec P m':=by
 obtain⟨a1,a2,a3,a4,a5⟩:=h
 have:=a2 hi
 refine⟨by rw[ep];exact a1,fun _=>⟨.inr (.inl es),by rw[el];exact this.2.1,by rw[e1,el];exact this.2.2.1,by rw[e2,el];exact this.2.2.2⟩,fun e=>by simp[ei]at e,fun _ e=>by omega,fun _ e => .inr ⟨et,by rw[ep];exact hk⟩⟩
theorem Sec.none(ep:0≤m'.pl∧m'.pl<31)(ei:m'.inn=false)(e:m'.sn=0∧m'.sv=0∧m'.st=0∧m'.tk=0∧m'.tm=0):Sec P m':=
 ⟨ep,fun e=>by simp[ei]at e,fun _=>e,fun e=>by simp[ei]at e,fun e=>by simp[ei]at e⟩
theorem Loc.sect(h:Loc P M G m)(inn:Bool)(sn sv st tk tm:Int)(ha:(inn && decide (st=3))=m.aft):Loc P M G { m with inn:=inn,sn:=sn,sv:=sv,st:=st,tk:=tk,tm:=tm }:=by
 have ha':({ m with inn:=inn,sn:=sn,sv:=sv,st:=st,tk:=tk,tm:=tm }:Mh).aft=m.aft:=ha
 generalize hm:({ m with inn:=inn,sn:=sn,sv:=sv,st:=st,tk:=tk,tm:=tm }:Mh)=m' at ha' ⊢
 have e:m'.pl=m.pl∧m'.p=m.p∧m'.g=m.g∧m'.nx=m.nx∧m'.got=m.got∧m'.tg=m.tg∧m'.i=m.i∧m'.spin=m.spin∧m'.rest=m.rest∧m'.back=m.back∧m'.after=m.after∧m'.arg=m.arg∧m'.yes=m.yes:=by subst hm;simp
 obtain⟨e1,e2,e3,e4,e5,e6,e7,e8,e9,e10,e11,e12,e13⟩:=e
 have g1:m'.hasP=m.hasP:=by simp only[Mh.hasP,Mh.byAfter,ha',e1,e8,e10,e11,e13]
 have g2:m'.hasG=m.hasG:=by simp only[Mh.hasG,ha',e1,e3,e10]
 have g3:m'.hasGot=m.hasGot:=by simp only[Mh.hasGot,ha',e1,e10,e13]
 have g4:m'.mayRest=m.mayRest:=by simp only[Mh.mayRest,ha',e1,e13]
 have g5:m'.spinS=m.spinS:=by simp only[Mh.spinS,ha',e1,e2,e8,e10]
 have g6:m'.backOk=m.backOk:=by simp only[Mh.backOk,e1,e10]
 have g7:m'.afterOk=m.afterOk:=by simp only[Mh.afterOk,e1,e10,e11]
 have g8:m'.idl=m.idl:=by simp only[Mh.idl,ha',e1,e8,e13]
 exact⟨by rw[g1,e2];exact h.hp,by rw[g2,e3];exact h.hg,by rw[g3,e5];exact h.hgot,by rw[g4,e9];exact h.hr,by rw[e9];exact h.hri,by rw[g5];exact h.sp,by rw[g6];exact h.bk,by rw[g7];exact h.af,
  by rw[e6,e1,ha'];exact h.tg,by rw[e4,g8];exact h.nx,by rw[e1,e7];exact h.ii,by rw[e1,e12];exact h.ar⟩
theorem mok_begin(h:Mok P M G m)(hi:m.inn=false)(hl:0≤m.lock P)(t:Int):Mok P M G { m.into (m.lock P) with tk:=t,st:=1 }:=
 ⟨h.l.sect true _ _ 1 t 0 (by simp[Mh.aft,hi]),h.s.pl,fun _=>⟨.inl rfl,hl,rfl,rfl⟩,fun e=>by simp[Mh.into]at e,fun _ _=>rfl,fun _ e=>by simp at e⟩
theorem mok_held(h:Mok P M G m)(hi:m.inn=true)(hs:m.st=1):Mok P M G { m with st:=2 }:=
 ⟨h.l.sect m.inn m.sn m.sv 2 m.tk m.tm (by simp[Mh.aft,hs]),h.s.pl,fun _=>⟨.inr (.inl rfl),(h.s.si hi).2⟩,fun e=>by simp[hi]at e,fun _ e=>by simp at e,fun _ _ => .inl (h.s.t1 hi hs)⟩
theorem mok_nx(h:Mok P M G m)(hi:m.idl=true)(x:Int)(hx:0≤x∧x<P):Mok P M G { m with nx:=x }:=by
 obtain⟨⟨a1,a2,a3,a4,a5,a6,a7,a8,a9,a10,a11,a12⟩,hs⟩:=h
 exact⟨⟨a1,a2,a3,a4,a5,a6,a7,a8,a9, .inr ⟨hx,hi⟩,a11,a12⟩,hs.pl,hs.si,hs.so,hs.t1,hs.t2⟩
theorem do_2(h:Mok P M G m)(hi:m.inn=true)(hs:m.st=2)(hp:m.pl=2)(r:Int × Bool)(hr:r.2=true→0≤r.1∧r.1<G):Mok P M G { m.get r with st:=3,tm:=m.tm+1 }:=by
 obtain⟨hl,hsec⟩:=h
 rw[loc_2 hp]at hl
 obtain⟨x,_|_⟩:=r
 all_goals
  refine⟨?_,hsec.do3 hi rfl hi rfl rfl rfl (by simp[Mh.lock,Mh.cls,Mh.get,Mh.getAll,Mh.hold,hp])⟩
  rw[loc_2 (by simpa[Mh.get,Mh.getAll,Mh.hold] using hp)]
  simp[Mh.get,Mh.getAll,Mh.hold,Mh.aft]at *
  grind
theorem do_3(h:Mok P M G m)(hi:m.inn=true)(hs:m.st=2)(hp:m.pl=3)(r:Int × Bool)(hr:r.2=true→0≤r.1∧r.1<G):Mok P M G { m.get r with st:=3,tm:=m.tm+1 }:=by
 obtain⟨hl,hsec⟩:=h
 rw[loc_3 hp]at hl
 obtain⟨x,_|_⟩:=r
 all_goals
  refine⟨?_,hsec.do3 hi rfl hi rfl rfl rfl (by simp[Mh.lock,Mh.cls,Mh.get,Mh.getAll,Mh.hold,hp])⟩
  rw[loc_3 (by simpa[Mh.get,Mh.getAll,Mh.hold] using hp)]
  simp[Mh.get,Mh.getAll,Mh.hold,Mh.aft]at *
  grind
theorem do_25(h:Mok P M G m)(hi:m.inn=true)(hs:m.st=2)(hp:m.pl=25)(r:Int × Bool)(hr:r.2=true→0≤r.1∧r.1<G):Mok P M G { m.get r with st:=3,tm:=m.tm+1 }:=by
 obtain⟨hl,hsec⟩:=h
 rw[loc_25 hp]at hl
 obtain⟨x,_|_⟩:=r
 all_goals
  refine⟨?_,hsec.do3 hi rfl hi rfl rfl rfl (by simp[Mh.lock,Mh.cls,Mh.get,Mh.getAll,Mh.hold,hp])⟩
  rw[loc_25 (by simpa[Mh.get,Mh.getAll,Mh.hold] using hp)]
  simp[Mh.get,Mh.getAll,Mh.hold,Mh.aft]at *
  grind
theorem do_4(h:Mok P M G m)(hi:m.inn=true)(hs:m.st=2)(hp:m.pl=4)(l:List Int)(hr:∀ x ∈ l,0≤x∧x<G):Mok P M G { m.getAll l with st:=3,tm:=m.tm+1 }:=by
 obtain⟨hl,hsec⟩:=h
 rw[loc_4 hp]at hl
 rcases l with _|⟨x,l⟩
 all_goals
  refine⟨?_,hsec.do3 hi rfl hi rfl rfl rfl (by simp[Mh.lock,Mh.cls,Mh.get,Mh.getAll,Mh.hold,hp])⟩
  rw[loc_4 (by simpa[Mh.get,Mh.getAll,Mh.hold] using hp)]
  simp[Mh.get,Mh.getAll,Mh.hold,Mh.aft]at *
  grind
theorem do_6(h:Mok P M G m)(hi:m.inn=true)(hs:m.st=2)(hp:m.pl=6)(l:List Int)(hr:∀ x ∈ l,0≤x∧x<G):Mok P M G { m.getAll l with st:=3,tm:=m.tm+1 }:=by
 obtain⟨hl,hsec⟩:=h
 rw[loc_6 hp]at hl
 rcases l with _|⟨x,l⟩
 all_goals
  refine⟨?_,hsec.do3 hi rfl hi rfl rfl rfl (by simp[Mh.lock,Mh.cls,Mh.get,Mh.getAll,Mh.hold,hp])⟩
  rw[loc_6 (by simpa[Mh.get,Mh.getAll,Mh.hold] using hp)]
  simp[Mh.get,Mh.getAll,Mh.hold,Mh.aft]at *
  grind
theorem do_7a(h:Mok P M G m)(hi:m.inn=true)(hs:m.st=2)(hp:m.pl=7)  : Mok P M G { m with yes:=false,p := -1,st:=3,tm:=m.tm+1 }:=by
 obtain⟨hl,hsec⟩:=h
 rw[loc_7 hp]at hl
 refine⟨?_,hsec.do3 hi rfl hi rfl rfl rfl (by simp[Mh.lock,Mh.cls,Mh.get,Mh.getAll,Mh.hold,hp])⟩
 rw[loc_7 (by simpa[Mh.get,Mh.getAll,Mh.hold] using hp)]
 simp[Mh.get,Mh.getAll,Mh.hold,Mh.aft]at *
 grind
theorem do_7b(h:Mok P M G m)(hi:m.inn=true)(hs:m.st=2)(hp:m.pl=7)(x:Int)(l:List Int)(hr:∀ y ∈ x :: l,0≤y∧y<G):Mok P M G { m.getAll (x :: l) with st:=3,tm:=m.tm+1 }:=by
 obtain⟨hl,hsec⟩:=h
 rw[loc_7 hp]at hl
 refine⟨?_,hsec.do3 hi rfl hi rfl rfl rfl (by simp[Mh.lock,Mh.cls,Mh.get,Mh.getAll,Mh.hold,hp])⟩
 rw[loc_7 (by simpa[Mh.get,Mh.getAll,Mh.hold] using hp)]
 simp[Mh.get,Mh.getAll,Mh.hold,Mh.aft]at *
 grind
theorem do_9(h:Mok P M G m)(hi:m.inn=true)(hs:m.st=2)(hp:m.pl=9)(b:Bool):Mok P M G { m with yes:=b,st:=3,tm:=m.tm+1 }:=by
 obtain⟨hl,hsec⟩:=h
 rw[loc_9 hp]at hl
 refine⟨?_,hsec.do3 hi rfl hi rfl rfl rfl (by simp[Mh.lock,Mh.cls,Mh.get,Mh.getAll,Mh.hold,hp])⟩
 rw[loc_9 (by simpa[Mh.get,Mh.getAll,Mh.hold] using hp)]
 simp[Mh.get,Mh.getAll,Mh.hold,Mh.aft]at *
 grind
theorem do_10(h:Mok P M G m)(hi:m.inn=true)(hs:m.st=2)(hp:m.pl=10)(b:Bool):Mok P M G { m with yes:=b,st:=3,tm:=m.tm+1 }:=by
 obtain⟨hl,hsec⟩:=h
 rw[loc_10 hp]at hl
 refine⟨?_,hsec.do3 hi rfl hi rfl rfl rfl (by simp[Mh.lock,Mh.cls,Mh.get,Mh.getAll,Mh.hold,hp])⟩
 rw[loc_10 (by simpa[Mh.get,Mh.getAll,Mh.hold] using hp)]
 simp[Mh.get,Mh.getAll,Mh.hold,Mh.aft]at *
 grind
theorem do_14(h:Mok P M G m)(hi:m.inn=true)(hs:m.st=2)(hp:m.pl=14)(b:Bool):Mok P M G { m with yes:=b,st:=3,tm:=m.tm+1 }:=by
 obtain⟨hl,hsec⟩:=h
 rw[loc_14 hp]at hl
 refine⟨?_,hsec.do3 hi rfl hi rfl rfl rfl (by simp[Mh.lock,Mh.cls,Mh.get,Mh.getAll,Mh.hold,hp])⟩
 rw[loc_14 (by simpa[Mh.get,Mh.getAll,Mh.hold] using hp)]
 simp[Mh.get,Mh.getAll,Mh.hold,Mh.aft]at *
 grind
theorem do_15(h:Mok P M G m)(hi:m.inn=true)(hs:m.st=2)(hp:m.pl=15)(b:Bool)(hb:b=true→m.nx = -1):Mok P M G { m with yes:=b,st:=3,tm:=m.tm+1 }:=by
 obtain⟨hl,hsec⟩:=h
 rw[loc_15 hp]at hl
 refine⟨?_,hsec.do3 hi rfl hi rfl rfl rfl (by simp[Mh.lock,Mh.cls,Mh.get,Mh.getAll,Mh.hold,hp])⟩
 rw[loc_15 (by simpa[Mh.get,Mh.getAll,Mh.hold] using hp)]
 simp[Mh.get,Mh.getAll,Mh.hold,Mh.aft]at *
 grind
theorem do_11(h:Mok P M G m)(hi:m.inn=true)(hs:m.st=2)(hp:m.pl=11)(r:Int × Bool)(hr:r.2=true→0≤r.1∧r.1<P):Mok P M G { m.hold r with st:=3,tm:=m.tm+1 }:=by
 obtain⟨hl,hsec⟩:=h
 rw[loc_11 hp]at hl
 obtain⟨x,_|_⟩:=r
 all_goals
  refine⟨?_,hsec.do3 hi rfl hi rfl rfl rfl (by simp[Mh.lock,Mh.cls,Mh.get,Mh.getAll,Mh.hold,hp])⟩
  rw[loc_11 (by simpa[Mh.get,Mh.getAll,Mh.hold] using hp)]
  simp[Mh.get,Mh.getAll,Mh.hold,Mh.aft]at *
  grind
theorem do_13a(h:Mok P M G m)(hi:m.inn=true)(hs:m.st=2)(hp:m.pl=13)(x:Int)(hr:0≤x∧x<P):Mok P M G { m with p:=x,spin:=true,st:=3,tm:=m.tm+1 }:=by
 obtain⟨hl,hsec⟩:=h
 rw[loc_13 hp]at hl
 refine⟨?_,hsec.do3 hi rfl hi rfl rfl rfl (by simp[Mh.lock,Mh.cls,Mh.get,Mh.getAll,Mh.hold,hp])⟩
 rw[loc_13 (by simpa[Mh.get,Mh.getAll,Mh.hold] using hp)]
 simp[Mh.get,Mh.getAll,Mh.hold,Mh.aft]at *
 grind
theorem do_13b(h:Mok P M G m)(hi:m.inn=true)(hs:m.st=2)(hp:m.pl=13)(b:Bool):Mok P M G { m with yes:=b,st:=3,tm:=m.tm+1 }:=by
 obtain⟨hl,hsec⟩:=h
 rw[loc_13 hp]at hl
 refine⟨?_,hsec.do3 hi rfl hi rfl rfl rfl (by simp[Mh.lock,Mh.cls,Mh.get,Mh.getAll,Mh.hold,hp])⟩
 rw[loc_13 (by simpa[Mh.get,Mh.getAll,Mh.hold] using hp)]
 simp[Mh.get,Mh.getAll,Mh.hold,Mh.aft]at *
 grind
theorem do_17(h:Mok P M G m)(hi:m.inn=true)(hs:m.st=2)(hp:m.pl=17)(l:List Int)(hr:∀ x ∈ l,0≤x∧x<G):Mok P M G { m with rest:=l,st:=3,tm:=m.tm+1 }:=by
 obtain⟨hl,hsec⟩:=h
 rw[loc_17 hp]at hl
 refine⟨?_,hsec.do3 hi rfl hi rfl rfl rfl (by simp[Mh.lock,Mh.cls,Mh.get,Mh.getAll,Mh.hold,hp])⟩
 rw[loc_17 (by simpa[Mh.get,Mh.getAll,Mh.hold] using hp)]
 simp[Mh.get,Mh.getAll,Mh.hold,Mh.aft]at *
 grind
theorem do_18(h:Mok P M G m)(hi:m.inn=true)(hs:m.st=2)(hp:m.pl=18)  : Mok P M G { m with rest := [],st:=3,tm:=m.tm+1 }:=by
 obtain⟨hl,hsec⟩:=h
 rw[loc_18 hp]at hl
 refine⟨?_,hsec.do3 hi rfl hi rfl rfl rfl (by simp[Mh.lock,Mh.cls,Mh.get,Mh.getAll,Mh.hold,hp])⟩
 rw[loc_18 (by simpa[Mh.get,Mh.getAll,Mh.hold] using hp)]
 simp[Mh.get,Mh.getAll,Mh.hold,Mh.aft]at *
 grind
theorem do_23a(h:Mok P M G m)(hi:m.inn=true)(hs:m.st=2)(hp:m.pl=23)(x:Int)(hr:0≤x∧x<M):Mok P M G { m with tg:=x,st:=3,tm:=m.tm+1 }:=by
 obtain⟨hl,hsec⟩:=h
 rw[loc_23 hp]at hl
 refine⟨?_,hsec.do3 hi rfl hi rfl rfl rfl (by simp[Mh.lock,Mh.cls,Mh.get,Mh.getAll,Mh.hold,hp])⟩
 rw[loc_23 (by simpa[Mh.get,Mh.getAll,Mh.hold] using hp)]
 simp[Mh.get,Mh.getAll,Mh.hold,Mh.aft]at *
 grind
theorem do_23b(h:Mok P M G m)(hi:m.inn=true)(hs:m.st=2)(hp:m.pl=23)  : Mok P M G { m with st:=3,tm:=m.tm+1 }:=by
 obtain⟨hl,hsec⟩:=h
 rw[loc_23 hp]at hl
 refine⟨?_,hsec.do3 hi rfl hi rfl rfl rfl (by simp[Mh.lock,Mh.cls,Mh.get,Mh.getAll,Mh.hold,hp])⟩
 rw[loc_23 (by simpa[Mh.get,Mh.getAll,Mh.hold] using hp)]
 simp[Mh.get,Mh.getAll,Mh.hold,Mh.aft]at *
 grind
theorem do_23c(h:Mok P M G m)(hi:m.inn=true)(hs:m.st=2)(hp:m.pl=23)(ht:m.tm=0):Mok P M G { m with st:=2,tm:=m.tm+1 }:=by
 obtain⟨hl,hsec⟩:=h
 rw[loc_23 hp]at hl
 refine⟨?_,hsec.do2 hi (by simp[hp]) rfl hi rfl (by simp[*]) rfl rfl (by simp[Mh.lock,Mh.cls,hp])⟩
 rw[loc_23 (by simpa[Mh.get,Mh.getAll,Mh.hold] using hp)]
 simp[Mh.get,Mh.getAll,Mh.hold,Mh.aft]at *
 grind
theorem do_27(h:Mok P M G m)(hi:m.inn=true)(hs:m.st=2)(hp:m.pl=27)  : Mok P M G { m with got := -1,st:=3,tm:=m.tm+1 }:=by
 obtain⟨hl,hsec⟩:=h
 rw[loc_27 hp]at hl
 refine⟨?_,hsec.do3 hi rfl hi rfl rfl rfl (by simp[Mh.lock,Mh.cls,Mh.get,Mh.getAll,Mh.hold,hp])⟩
 rw[loc_27 (by simpa[Mh.get,Mh.getAll,Mh.hold] using hp)]
 simp[Mh.get,Mh.getAll,Mh.hold,Mh.aft]at *
 grind
theorem do_28(h:Mok P M G m)(hi:m.inn=true)(hs:m.st=2)(hp:m.pl=28)(l:List Int)(hr:∀ x ∈ l,0≤x∧x<G):Mok P M G { m with rest:=l,got := -1,st:=3,tm:=m.tm+1 }:=by
 obtain⟨hl,hsec⟩:=h
 rw[loc_28 hp]at hl
 refine⟨?_,hsec.do3 hi rfl hi rfl rfl rfl (by simp[Mh.lock,Mh.cls,Mh.get,Mh.getAll,Mh.hold,hp])⟩
 rw[loc_28 (by simpa[Mh.get,Mh.getAll,Mh.hold] using hp)]
 simp[Mh.get,Mh.getAll,Mh.hold,Mh.aft]at *
 grind
theorem do_29a(h:Mok P M G m)(hi:m.inn=true)(hs:m.st=2)(hp:m.pl=29)(ht:m.tm=0)(u:Int)(b:Bool):Mok P M G { m with til:=u,yes:=b,st:=2,tm:=m.tm+1 }:=by
 obtain⟨hl,hsec⟩:=h
 rw[loc_29 hp]at hl
 refine⟨?_,hsec.do2 hi (by simp[hp]) rfl hi rfl (by simp[*]) rfl rfl (by simp[Mh.lock,Mh.cls,hp])⟩
 rw[loc_29 (by simpa[Mh.get,Mh.getAll,Mh.hold] using hp)]
 simp[Mh.get,Mh.getAll,Mh.hold,Mh.aft]at *
 grind
theorem do_29b(h:Mok P M G m)(hi:m.inn=true)(hs:m.st=2)(hp:m.pl=29)  : Mok P M G { m with g := -1,st:=3,tm:=m.tm+1 }:=by
 obtain⟨hl,hsec⟩:=h
 rw[loc_29 hp]at hl
 refine⟨?_,hsec.do3 hi rfl hi rfl rfl rfl (by simp[Mh.lock,Mh.cls,Mh.get,Mh.getAll,Mh.hold,hp])⟩
 rw[loc_29 (by simpa[Mh.get,Mh.getAll,Mh.hold] using hp)]
 simp[Mh.get,Mh.getAll,Mh.hold,Mh.aft]at *
 grind
theorem do_30a(h:Mok P M G m)(hi:m.inn=true)(hs:m.st=2)(hp:m.pl=30)(ht:m.tm=0)(b:Bool):Mok P M G { m with yes:=b,st:=2,tm:=m.tm+1 }:=by
 obtain⟨hl,hsec⟩:=h
 rw[loc_30 hp]at hl
 refine⟨?_,hsec.do2 hi (by simp[hp]) rfl hi rfl (by simp[*]) rfl rfl (by simp[Mh.lock,Mh.cls,hp])⟩
 rw[loc_30 (by simpa[Mh.get,Mh.getAll,Mh.hold] using hp)]
 simp[Mh.get,Mh.getAll,Mh.hold,Mh.aft]at *
 grind
theorem do_30b(h:Mok P M G m)(hi:m.inn=true)(hs:m.st=2)(hp:m.pl=30)(b:Bool):Mok P M G { m with yes:=b,st:=3,tm:=m.tm+1 }:=by
 obtain⟨hl,hsec⟩:=h
 rw[loc_30 hp]at hl
 refine⟨?_,hsec.do3 hi rfl hi rfl rfl rfl (by simp[Mh.lock,Mh.cls,Mh.get,Mh.getAll,Mh.hold,hp])⟩
 rw[loc_30 (by simpa[Mh.get,Mh.getAll,Mh.hold] using hp)]
 simp[Mh.get,Mh.getAll,Mh.hold,Mh.aft]at *
 grind
theorem do_30c(h:Mok P M G m)(hi:m.inn=true)(hs:m.st=2)(hp:m.pl=30)  : Mok P M G { m with g := -1,st:=3,tm:=m.tm+1 }:=by
 obtain⟨hl,hsec⟩:=h
 rw[loc_30 hp]at hl
 refine⟨?_,hsec.do3 hi rfl hi rfl rfl rfl (by simp[Mh.lock,Mh.cls,Mh.get,Mh.getAll,Mh.hold,hp])⟩
 rw[loc_30 (by simpa[Mh.get,Mh.getAll,Mh.hold] using hp)]
 simp[Mh.get,Mh.getAll,Mh.hold,Mh.aft]at *
 grind
theorem go_2y(h:Mok P M G m)(hi:m.inn=true)(hs:m.st=3)(hp:m.pl=2)(c0:m.yes=true)(c1:m.rest = [])(c2:m.spin=false):Mok P M G (m.out.goOn P):=by
 obtain⟨hl,hsec⟩:=h
 rw[loc_2 hp]at hl
 have ha:m.aft=true:=by simp[Mh.aft,hi,hs]
 have hq:(m.out.goOn P).pl=20:=by simp[Mh.out,Mh.goOn,Mh.found,Mh.restOn,Mh.steal,Mh.look,Mh.settle,Mh.deliver,Mh.parked,hp,c0,c1,c2]
 refine⟨?_,Sec.none (by rw[hq];omega) (by simp[Mh.out,Mh.goOn,Mh.found,Mh.restOn,Mh.steal,Mh.look,Mh.settle,Mh.deliver,Mh.parked,hp,c0,c1,c2]) (by simp[Mh.out,Mh.goOn,Mh.found,Mh.restOn,Mh.steal,Mh.look,Mh.settle,Mh.deliver,Mh.parked,hp,c0,c1,c2])⟩
 rw[loc_20 hq]
 simp[Mh.aft,ha,Mh.out,Mh.goOn,Mh.found,Mh.restOn,Mh.steal,Mh.look,Mh.settle,Mh.deliver,Mh.parked,hp,c0,c1,c2]at *
 grind
theorem go_2n(h:Mok P M G m)(hi:m.inn=true)(hs:m.st=3)(hp:m.pl=2)(c0:m.yes=false):Mok P M G (m.out.goOn P):=by
 obtain⟨hl,hsec⟩:=h
 rw[loc_2 hp]at hl
 have ha:m.aft=true:=by simp[Mh.aft,hi,hs]
 have hq:(m.out.goOn P).pl=3:=by simp[Mh.out,Mh.goOn,Mh.found,Mh.restOn,Mh.steal,Mh.look,Mh.settle,Mh.deliver,Mh.parked,hp,c0]
 refine⟨?_,Sec.none (by rw[hq];omega) (by simp[Mh.out,Mh.goOn,Mh.found,Mh.restOn,Mh.steal,Mh.look,Mh.settle,Mh.deliver,Mh.parked,hp,c0]) (by simp[Mh.out,Mh.goOn,Mh.found,Mh.restOn,Mh.steal,Mh.look,Mh.settle,Mh.deliver,Mh.parked,hp,c0])⟩
 rw[loc_3 hq]
 simp[Mh.aft,ha,Mh.out,Mh.goOn,Mh.found,Mh.restOn,Mh.steal,Mh.look,Mh.settle,Mh.deliver,Mh.parked,hp,c0]at *
 grind
theorem go_3y(h:Mok P M G m)(hi:m.inn=true)(hs:m.st=3)(hp:m.pl=3)(c0:m.yes=true)(c1:m.rest = [])(c2:m.spin=false):Mok P M G (m.out.goOn P):=by
 obtain⟨hl,hsec⟩:=h
 rw[loc_3 hp]at hl
 have ha:m.aft=true:=by simp[Mh.aft,hi,hs]
 have hq:(m.out.goOn P).pl=20:=by simp[Mh.out,Mh.goOn,Mh.found,Mh.restOn,Mh.steal,Mh.look,Mh.settle,Mh.deliver,Mh.parked,hp,c0,c1,c2]
 refine⟨?_,Sec.none (by rw[hq];omega) (by simp[Mh.out,Mh.goOn,Mh.found,Mh.restOn,Mh.steal,Mh.look,Mh.settle,Mh.deliver,Mh.parked,hp,c0,c1,c2]) (by simp[Mh.out,Mh.goOn,Mh.found,Mh.restOn,Mh.steal,Mh.look,Mh.settle,Mh.deliver,Mh.parked,hp,c0,c1,c2])⟩
 rw[loc_20 hq]
 simp[Mh.aft,ha,Mh.out,Mh.goOn,Mh.found,Mh.restOn,Mh.steal,Mh.look,Mh.settle,Mh.deliver,Mh.parked,hp,c0,c1,c2]at *
 grind
theorem go_3n(h:Mok P M G m)(hi:m.inn=true)(hs:m.st=3)(hp:m.pl=3)(c0:m.yes=false):Mok P M G (m.out.goOn P):=by
 obtain⟨hl,hsec⟩:=h
 rw[loc_3 hp]at hl
 have ha:m.aft=true:=by simp[Mh.aft,hi,hs]
 have hq:(m.out.goOn P).pl=4:=by simp[Mh.out,Mh.goOn,Mh.found,Mh.restOn,Mh.steal,Mh.look,Mh.settle,Mh.deliver,Mh.parked,hp,c0]
 refine⟨?_,Sec.none (by rw[hq];omega) (by simp[Mh.out,Mh.goOn,Mh.found,Mh.restOn,Mh.steal,Mh.look,Mh.settle,Mh.deliver,Mh.parked,hp,c0]) (by simp[Mh.out,Mh.goOn,Mh.found,Mh.restOn,Mh.steal,Mh.look,Mh.settle,Mh.deliver,Mh.parked,hp,c0])⟩
 rw[loc_4 hq]
 simp[Mh.aft,ha,Mh.out,Mh.goOn,Mh.found,Mh.restOn,Mh.steal,Mh.look,Mh.settle,Mh.deliver,Mh.parked,hp,c0]at *
 grind
theorem go_4r(h:Mok P M G m)(hi:m.inn=true)(hs:m.st=3)(hp:m.pl=4)(c0:m.yes=true)(c1:¬m.rest = []):Mok P M G (m.out.goOn P):=by
 obtain⟨hl,hsec⟩:=h
 rw[loc_4 hp]at hl
 have ha:m.aft=true:=by simp[Mh.aft,hi,hs]
 have hq:(m.out.goOn P).pl=17:=by simp[Mh.out,Mh.goOn,Mh.found,Mh.restOn,Mh.steal,Mh.look,Mh.settle,Mh.deliver,Mh.parked,hp,c0,c1]
 refine⟨?_,Sec.none (by rw[hq];omega) (by simp[Mh.out,Mh.goOn,Mh.found,Mh.restOn,Mh.steal,Mh.look,Mh.settle,Mh.deliver,Mh.parked,hp,c0,c1]) (by simp[Mh.out,Mh.goOn,Mh.found,Mh.restOn,Mh.steal,Mh.look,Mh.settle,Mh.deliver,Mh.parked,hp,c0,c1])⟩
 rw[loc_17 hq]
 simp[Mh.aft,ha,Mh.out,Mh.goOn,Mh.found,Mh.restOn,Mh.steal,Mh.look,Mh.settle,Mh.deliver,Mh.parked,hp,c0,c1]at *
 grind
theorem go_4s(h:Mok P M G m)(hi:m.inn=true)(hs:m.st=3)(hp:m.pl=4)(c0:m.yes=true)(c1:m.rest = [])(c2:m.spin=true):Mok P M G (m.out.goOn P):=by
 obtain⟨hl,hsec⟩:=h
 rw[loc_4 hp]at hl
 have ha:m.aft=true:=by simp[Mh.aft,hi,hs]
 have hq:(m.out.goOn P).pl=19:=by simp[Mh.out,Mh.goOn,Mh.found,Mh.restOn,Mh.steal,Mh.look,Mh.settle,Mh.deliver,Mh.parked,hp,c0,c1,c2]
 refine⟨?_,Sec.none (by rw[hq];omega) (by simp[Mh.out,Mh.goOn,Mh.found,Mh.restOn,Mh.steal,Mh.look,Mh.settle,Mh.deliver,Mh.parked,hp,c0,c1,c2]) (by simp[Mh.out,Mh.goOn,Mh.found,Mh.restOn,Mh.steal,Mh.look,Mh.settle,Mh.deliver,Mh.parked,hp,c0,c1,c2])⟩
 rw[loc_19 hq]
 simp[Mh.aft,ha,Mh.out,Mh.goOn,Mh.found,Mh.restOn,Mh.steal,Mh.look,Mh.settle,Mh.deliver,Mh.parked,hp,c0,c1,c2]at *
 grind
theorem go_6r(h:Mok P M G m)(hi:m.inn=true)(hs:m.st=3)(hp:m.pl=6)(c0:m.yes=true)(c1:¬m.rest = []):Mok P M G (m.out.goOn P):=by
 obtain⟨hl,hsec⟩:=h
 rw[loc_6 hp]at hl
 have ha:m.aft=true:=by simp[Mh.aft,hi,hs]
 have hq:(m.out.goOn P).pl=17:=by simp[Mh.out,Mh.goOn,Mh.found,Mh.restOn,Mh.steal,Mh.look,Mh.settle,Mh.deliver,Mh.parked,hp,c0,c1]
 refine⟨?_,Sec.none (by rw[hq];omega) (by simp[Mh.out,Mh.goOn,Mh.found,Mh.restOn,Mh.steal,Mh.look,Mh.settle,Mh.deliver,Mh.parked,hp,c0,c1]) (by simp[Mh.out,Mh.goOn,Mh.found,Mh.restOn,Mh.steal,Mh.look,Mh.settle,Mh.deliver,Mh.parked,hp,c0,c1])⟩
 rw[loc_17 hq]
 simp[Mh.aft,ha,Mh.out,Mh.goOn,Mh.found,Mh.restOn,Mh.steal,Mh.look,Mh.settle,Mh.deliver,Mh.parked,hp,c0,c1]at *
 grind
theorem go_6s(h:Mok P M G m)(hi:m.inn=true)(hs:m.st=3)(hp:m.pl=6)(c0:m.yes=true)(c1:m.rest = [])(c2:m.spin=true):Mok P M G (m.out.goOn P):=by
 obtain⟨hl,hsec⟩:=h
 rw[loc_6 hp]at hl
 have ha:m.aft=true:=by simp[Mh.aft,hi,hs]
 have hq:(m.out.goOn P).pl=19:=by simp[Mh.out,Mh.goOn,Mh.found,Mh.restOn,Mh.steal,Mh.look,Mh.settle,Mh.deliver,Mh.parked,hp,c0,c1,c2]
 refine⟨?_,Sec.none (by rw[hq];omega) (by simp[Mh.out,Mh.goOn,Mh.found,Mh.restOn,Mh.steal,Mh.look,Mh.settle,Mh.deliver,Mh.parked,hp,c0,c1,c2]) (by simp[Mh.out,Mh.goOn,Mh.found,Mh.restOn,Mh.steal,Mh.look,Mh.settle,Mh.deliver,Mh.parked,hp,c0,c1,c2])⟩
 rw[loc_19 hq]
 simp[Mh.aft,ha,Mh.out,Mh.goOn,Mh.found,Mh.restOn,Mh.steal,Mh.look,Mh.settle,Mh.deliver,Mh.parked,hp,c0,c1,c2]at *
 grind
theorem go_7r(h:Mok P M G m)(hi:m.inn=true)(hs:m.st=3)(hp:m.pl=7)(c0:m.yes=true)(c1:¬m.rest = []):Mok P M G (m.out.goOn P):=by
 obtain⟨hl,hsec⟩:=h
 rw[loc_7 hp]at hl
 have ha:m.aft=true:=by simp[Mh.aft,hi,hs]
 have hq:(m.out.goOn P).pl=17:=by simp[Mh.out,Mh.goOn,Mh.found,Mh.restOn,Mh.steal,Mh.look,Mh.settle,Mh.deliver,Mh.parked,hp,c0,c1]
 refine⟨?_,Sec.none (by rw[hq];omega) (by simp[Mh.out,Mh.goOn,Mh.found,Mh.restOn,Mh.steal,Mh.look,Mh.settle,Mh.deliver,Mh.parked,hp,c0,c1]) (by simp[Mh.out,Mh.goOn,Mh.found,Mh.restOn,Mh.steal,Mh.look,Mh.settle,Mh.deliver,Mh.parked,hp,c0,c1])⟩
 rw[loc_17 hq]
 simp[Mh.aft,ha,Mh.out,Mh.goOn,Mh.found,Mh.restOn,Mh.steal,Mh.look,Mh.settle,Mh.deliver,Mh.parked,hp,c0,c1]at *
 grind
theorem go_7s(h:Mok P M G m)(hi:m.inn=true)(hs:m.st=3)(hp:m.pl=7)(c0:m.yes=true)(c1:m.rest = [])(c2:m.spin=true):Mok P M G (m.out.goOn P):=by
 obtain⟨hl,hsec⟩:=h
 rw[loc_7 hp]at hl
 have ha:m.aft=true:=by simp[Mh.aft,hi,hs]
 have hq:(m.out.goOn P).pl=19:=by simp[Mh.out,Mh.goOn,Mh.found,Mh.restOn,Mh.steal,Mh.look,Mh.settle,Mh.deliver,Mh.parked,hp,c0,c1,c2]
 refine⟨?_,Sec.none (by rw[hq];omega) (by simp[Mh.out,Mh.goOn,Mh.found,Mh.restOn,Mh.steal,Mh.look,Mh.settle,Mh.deliver,Mh.parked,hp,c0,c1,c2]) (by simp[Mh.out,Mh.goOn,Mh.found,Mh.restOn,Mh.steal,Mh.look,Mh.settle,Mh.deliver,Mh.parked,hp,c0,c1,c2])⟩
 rw[loc_19 hq]
 simp[Mh.aft,ha,Mh.out,Mh.goOn,Mh.found,Mh.restOn,Mh.steal,Mh.look,Mh.settle,Mh.deliver,Mh.parked,hp,c0,c1,c2]at *
 grind
theorem go_4y(h:Mok P M G m)(hi:m.inn=true)(hs:m.st=3)(hp:m.pl=4)(c0:m.yes=true)(c1:m.rest = [])(c2:m.spin=false):Mok P M G (m.out.goOn P):=by
 obtain⟨hl,hsec⟩:=h
 rw[loc_4 hp]at hl
 have ha:m.aft=true:=by simp[Mh.aft,hi,hs]
 have hq:(m.out.goOn P).pl=20:=by simp[Mh.out,Mh.goOn,Mh.found,Mh.restOn,Mh.steal,Mh.look,Mh.settle,Mh.deliver,Mh.parked,hp,c0,c1,c2]
 refine⟨?_,Sec.none (by rw[hq];omega) (by simp[Mh.out,Mh.goOn,Mh.found,Mh.restOn,Mh.steal,Mh.look,Mh.settle,Mh.deliver,Mh.parked,hp,c0,c1,c2]) (by simp[Mh.out,Mh.goOn,Mh.found,Mh.restOn,Mh.steal,Mh.look,Mh.settle,Mh.deliver,Mh.parked,hp,c0,c1,c2])⟩
 rw[loc_20 hq]
 simp[Mh.aft,ha,Mh.out,Mh.goOn,Mh.found,Mh.restOn,Mh.steal,Mh.look,Mh.settle,Mh.deliver,Mh.parked,hp,c0,c1,c2]at *
 grind
theorem go_4u(h:Mok P M G m)(hi:m.inn=true)(hs:m.st=3)(hp:m.pl=4)(c0:m.yes=false)(c1:m.spin=false):Mok P M G (m.out.goOn P):=by
 obtain⟨hl,hsec⟩:=h
 rw[loc_4 hp]at hl
 have ha:m.aft=true:=by simp[Mh.aft,hi,hs]
 have hq:(m.out.goOn P).pl=5:=by simp[Mh.out,Mh.goOn,Mh.found,Mh.restOn,Mh.steal,Mh.look,Mh.settle,Mh.deliver,Mh.parked,hp,c0,c1]
 refine⟨?_,Sec.none (by rw[hq];omega) (by simp[Mh.out,Mh.goOn,Mh.found,Mh.restOn,Mh.steal,Mh.look,Mh.settle,Mh.deliver,Mh.parked,hp,c0,c1]) (by simp[Mh.out,Mh.goOn,Mh.found,Mh.restOn,Mh.steal,Mh.look,Mh.settle,Mh.deliver,Mh.parked,hp,c0,c1])⟩
 rw[loc_5 hq]
 simp[Mh.aft,ha,Mh.out,Mh.goOn,Mh.found,Mh.restOn,Mh.steal,Mh.look,Mh.settle,Mh.deliver,Mh.parked,hp,c0,c1]at *
 grind
theorem go_4t(h:Mok P M G m)(hi:m.inn=true)(hs:m.st=3)(hp:m.pl=4)(c0:m.yes=false)(c1:m.spin=true)(c2:(1:Int)<P):Mok P M G (m.out.goOn P):=by
 obtain⟨hl,hsec⟩:=h
 rw[loc_4 hp]at hl
 have ha:m.aft=true:=by simp[Mh.aft,hi,hs]
 have hq:(m.out.goOn P).pl=6:=by simp[Mh.out,Mh.goOn,Mh.found,Mh.restOn,Mh.steal,Mh.look,Mh.settle,Mh.deliver,Mh.parked,hp,c0,c1,c2]
 refine⟨?_,Sec.none (by rw[hq];omega) (by simp[Mh.out,Mh.goOn,Mh.found,Mh.restOn,Mh.steal,Mh.look,Mh.settle,Mh.deliver,Mh.parked,hp,c0,c1,c2]) (by simp[Mh.out,Mh.goOn,Mh.found,Mh.restOn,Mh.steal,Mh.look,Mh.settle,Mh.deliver,Mh.parked,hp,c0,c1,c2])⟩
 rw[loc_6 hq]
 simp[Mh.aft,ha,Mh.out,Mh.goOn,Mh.found,Mh.restOn,Mh.steal,Mh.look,Mh.settle,Mh.deliver,Mh.parked,hp,c0,c1,c2]at *
 grind
theorem go_4z(h:Mok P M G m)(hi:m.inn=true)(hs:m.st=3)(hp:m.pl=4)(c0:m.yes=false)(c1:m.spin=true)(c2:¬(1:Int)<P):Mok P M G (m.out.goOn P):=by
 obtain⟨hl,hsec⟩:=h
 rw[loc_4 hp]at hl
 have ha:m.aft=true:=by simp[Mh.aft,hi,hs]
 have hq:(m.out.goOn P).pl=7:=by simp[Mh.out,Mh.goOn,Mh.found,Mh.restOn,Mh.steal,Mh.look,Mh.settle,Mh.deliver,Mh.parked,hp,c0,c1,c2]
 refine⟨?_,Sec.none (by rw[hq];omega) (by simp[Mh.out,Mh.goOn,Mh.found,Mh.restOn,Mh.steal,Mh.look,Mh.settle,Mh.deliver,Mh.parked,hp,c0,c1,c2]) (by simp[Mh.out,Mh.goOn,Mh.found,Mh.restOn,Mh.steal,Mh.look,Mh.settle,Mh.deliver,Mh.parked,hp,c0,c1,c2])⟩
 rw[loc_7 hq]
 simp[Mh.aft,ha,Mh.out,Mh.goOn,Mh.found,Mh.restOn,Mh.steal,Mh.look,Mh.settle,Mh.deliver,Mh.parked,hp,c0,c1,c2]at *
 grind
theorem go_6t(h:Mok P M G m)(hi:m.inn=true)(hs:m.st=3)(hp:m.pl=6)(c0:m.yes=false)(c1:m.i+1<P):Mok P M G (m.out.goOn P):=by
 obtain⟨hl,hsec⟩:=h
 rw[loc_6 hp]at hl
 have ha:m.aft=true:=by simp[Mh.aft,hi,hs]
 have hq:(m.out.goOn P).pl=6:=by simp[Mh.out,Mh.goOn,Mh.found,Mh.restOn,Mh.steal,Mh.look,Mh.settle,Mh.deliver,Mh.parked,hp,c0,c1]
 refine⟨?_,Sec.none (by rw[hq];omega) (by simp[Mh.out,Mh.goOn,Mh.found,Mh.restOn,Mh.steal,Mh.look,Mh.settle,Mh.deliver,Mh.parked,hp,c0,c1]) (by simp[Mh.out,Mh.goOn,Mh.found,Mh.restOn,Mh.steal,Mh.look,Mh.settle,Mh.deliver,Mh.parked,hp,c0,c1])⟩
 rw[loc_6 hq]
 simp[Mh.aft,ha,Mh.out,Mh.goOn,Mh.found,Mh.restOn,Mh.steal,Mh.look,Mh.settle,Mh.deliver,Mh.parked,hp,c0,c1]at *
 grind
theorem go_6z(h:Mok P M G m)(hi:m.inn=true)(hs:m.st=3)(hp:m.pl=6)(c0:m.yes=false)(c1:¬m.i+1<P):Mok P M G (m.out.goOn P):=by
 obtain⟨hl,hsec⟩:=h
 rw[loc_6 hp]at hl
 have ha:m.aft=true:=by simp[Mh.aft,hi,hs]
 have hq:(m.out.goOn P).pl=7:=by simp[Mh.out,Mh.goOn,Mh.found,Mh.restOn,Mh.steal,Mh.look,Mh.settle,Mh.deliver,Mh.parked,hp,c0,c1]
 refine⟨?_,Sec.none (by rw[hq];omega) (by simp[Mh.out,Mh.goOn,Mh.found,Mh.restOn,Mh.steal,Mh.look,Mh.settle,Mh.deliver,Mh.parked,hp,c0,c1]) (by simp[Mh.out,Mh.goOn,Mh.found,Mh.restOn,Mh.steal,Mh.look,Mh.settle,Mh.deliver,Mh.parked,hp,c0,c1])⟩
 rw[loc_7 hq]
 simp[Mh.aft,ha,Mh.out,Mh.goOn,Mh.found,Mh.restOn,Mh.steal,Mh.look,Mh.settle,Mh.deliver,Mh.parked,hp,c0,c1]at *
 grind
theorem go_7n(h:Mok P M G m)(hi:m.inn=true)(hs:m.st=3)(hp:m.pl=7)(c0:m.yes=false):Mok P M G (m.out.goOn P):=by
 obtain⟨hl,hsec⟩:=h
 rw[loc_7 hp]at hl
 have ha:m.aft=true:=by simp[Mh.aft,hi,hs]
 have hq:(m.out.goOn P).pl=8:=by simp[Mh.out,Mh.goOn,Mh.found,Mh.restOn,Mh.steal,Mh.look,Mh.settle,Mh.deliver,Mh.parked,hp,c0]
 refine⟨?_,Sec.none (by rw[hq];omega) (by simp[Mh.out,Mh.goOn,Mh.found,Mh.restOn,Mh.steal,Mh.look,Mh.settle,Mh.deliver,Mh.parked,hp,c0]) (by simp[Mh.out,Mh.goOn,Mh.found,Mh.restOn,Mh.steal,Mh.look,Mh.settle,Mh.deliver,Mh.parked,hp,c0])⟩
 rw[loc_8 hq]
 simp[Mh.aft,ha,Mh.out,Mh.goOn,Mh.found,Mh.restOn,Mh.steal,Mh.look,Mh.settle,Mh.deliver,Mh.parked,hp,c0]at *
 grind
theorem go_9y(h:Mok P M G m)(hi:m.inn=true)(hs:m.st=3)(hp:m.pl=9)(c0:m.yes=true):Mok P M G (m.out.goOn P):=by
 obtain⟨hl,hsec⟩:=h
 rw[loc_9 hp]at hl
 have ha:m.aft=true:=by simp[Mh.aft,hi,hs]
 have hq:(m.out.goOn P).pl=11:=by simp[Mh.out,Mh.goOn,Mh.found,Mh.restOn,Mh.steal,Mh.look,Mh.settle,Mh.deliver,Mh.parked,hp,c0]
 refine⟨?_,Sec.none (by rw[hq];omega) (by simp[Mh.out,Mh.goOn,Mh.found,Mh.restOn,Mh.steal,Mh.look,Mh.settle,Mh.deliver,Mh.parked,hp,c0]) (by simp[Mh.out,Mh.goOn,Mh.found,Mh.restOn,Mh.steal,Mh.look,Mh.settle,Mh.deliver,Mh.parked,hp,c0])⟩
 rw[loc_11 hq]
 simp[Mh.aft,ha,Mh.out,Mh.goOn,Mh.found,Mh.restOn,Mh.steal,Mh.look,Mh.settle,Mh.deliver,Mh.parked,hp,c0]at *
 grind
theorem go_9n(h:Mok P M G m)(hi:m.inn=true)(hs:m.st=3)(hp:m.pl=9)(c0:m.yes=false)(c1:m.i+1<P):Mok P M G (m.out.goOn P):=by
 obtain⟨hl,hsec⟩:=h
 rw[loc_9 hp]at hl
 have ha:m.aft=true:=by simp[Mh.aft,hi,hs]
 have hq:(m.out.goOn P).pl=9:=by simp[Mh.out,Mh.goOn,Mh.found,Mh.restOn,Mh.steal,Mh.look,Mh.settle,Mh.deliver,Mh.parked,hp,c0,c1]
 refine⟨?_,Sec.none (by rw[hq];omega) (by simp[Mh.out,Mh.goOn,Mh.found,Mh.restOn,Mh.steal,Mh.look,Mh.settle,Mh.deliver,Mh.parked,hp,c0,c1]) (by simp[Mh.out,Mh.goOn,Mh.found,Mh.restOn,Mh.steal,Mh.look,Mh.settle,Mh.deliver,Mh.parked,hp,c0,c1])⟩
 rw[loc_9 hq]
 simp[Mh.aft,ha,Mh.out,Mh.goOn,Mh.found,Mh.restOn,Mh.steal,Mh.look,Mh.settle,Mh.deliver,Mh.parked,hp,c0,c1]at *
 grind
theorem go_9z(h:Mok P M G m)(hi:m.inn=true)(hs:m.st=3)(hp:m.pl=9)(c0:m.yes=false)(c1:¬m.i+1<P):Mok P M G (m.out.goOn P):=by
 obtain⟨hl,hsec⟩:=h
 rw[loc_9 hp]at hl
 have ha:m.aft=true:=by simp[Mh.aft,hi,hs]
 have hq:(m.out.goOn P).pl=10:=by simp[Mh.out,Mh.goOn,Mh.found,Mh.restOn,Mh.steal,Mh.look,Mh.settle,Mh.deliver,Mh.parked,hp,c0,c1]
 refine⟨?_,Sec.none (by rw[hq];omega) (by simp[Mh.out,Mh.goOn,Mh.found,Mh.restOn,Mh.steal,Mh.look,Mh.settle,Mh.deliver,Mh.parked,hp,c0,c1]) (by simp[Mh.out,Mh.goOn,Mh.found,Mh.restOn,Mh.steal,Mh.look,Mh.settle,Mh.deliver,Mh.parked,hp,c0,c1])⟩
 rw[loc_10 hq]
 simp[Mh.aft,ha,Mh.out,Mh.goOn,Mh.found,Mh.restOn,Mh.steal,Mh.look,Mh.settle,Mh.deliver,Mh.parked,hp,c0,c1]at *
 grind
theorem go_10y(h:Mok P M G m)(hi:m.inn=true)(hs:m.st=3)(hp:m.pl=10)(c0:m.yes=true):Mok P M G (m.out.goOn P):=by
 obtain⟨hl,hsec⟩:=h
 rw[loc_10 hp]at hl
 have ha:m.aft=true:=by simp[Mh.aft,hi,hs]
 have hq:(m.out.goOn P).pl=11:=by simp[Mh.out,Mh.goOn,Mh.found,Mh.restOn,Mh.steal,Mh.look,Mh.settle,Mh.deliver,Mh.parked,hp,c0]
 refine⟨?_,Sec.none (by rw[hq];omega) (by simp[Mh.out,Mh.goOn,Mh.found,Mh.restOn,Mh.steal,Mh.look,Mh.settle,Mh.deliver,Mh.parked,hp,c0]) (by simp[Mh.out,Mh.goOn,Mh.found,Mh.restOn,Mh.steal,Mh.look,Mh.settle,Mh.deliver,Mh.parked,hp,c0])⟩
 rw[loc_11 hq]
 simp[Mh.aft,ha,Mh.out,Mh.goOn,Mh.found,Mh.restOn,Mh.steal,Mh.look,Mh.settle,Mh.deliver,Mh.parked,hp,c0]at *
 grind
theorem go_10n(h:Mok P M G m)(hi:m.inn=true)(hs:m.st=3)(hp:m.pl=10)(c0:m.yes=false):Mok P M G (m.out.goOn P):=by
 obtain⟨hl,hsec⟩:=h
 rw[loc_10 hp]at hl
 have ha:m.aft=true:=by simp[Mh.aft,hi,hs]
 have hq:(m.out.goOn P).pl=13:=by simp[Mh.out,Mh.goOn,Mh.found,Mh.restOn,Mh.steal,Mh.look,Mh.settle,Mh.deliver,Mh.parked,hp,c0]
 refine⟨?_,Sec.none (by rw[hq];omega) (by simp[Mh.out,Mh.goOn,Mh.found,Mh.restOn,Mh.steal,Mh.look,Mh.settle,Mh.deliver,Mh.parked,hp,c0]) (by simp[Mh.out,Mh.goOn,Mh.found,Mh.restOn,Mh.steal,Mh.look,Mh.settle,Mh.deliver,Mh.parked,hp,c0])⟩
 rw[loc_13 hq]
 simp[Mh.aft,ha,Mh.out,Mh.goOn,Mh.found,Mh.restOn,Mh.steal,Mh.look,Mh.settle,Mh.deliver,Mh.parked,hp,c0]at *
 grind
theorem go_11y(h:Mok P M G m)(hi:m.inn=true)(hs:m.st=3)(hp:m.pl=11)(c0:m.yes=true):Mok P M G (m.out.goOn P):=by
 obtain⟨hl,hsec⟩:=h
 rw[loc_11 hp]at hl
 have ha:m.aft=true:=by simp[Mh.aft,hi,hs]
 have hq:(m.out.goOn P).pl=12:=by simp[Mh.out,Mh.goOn,Mh.found,Mh.restOn,Mh.steal,Mh.look,Mh.settle,Mh.deliver,Mh.parked,hp,c0]
 refine⟨?_,Sec.none (by rw[hq];omega) (by simp[Mh.out,Mh.goOn,Mh.found,Mh.restOn,Mh.steal,Mh.look,Mh.settle,Mh.deliver,Mh.parked,hp,c0]) (by simp[Mh.out,Mh.goOn,Mh.found,Mh.restOn,Mh.steal,Mh.look,Mh.settle,Mh.deliver,Mh.parked,hp,c0])⟩
 rw[loc_12 hq]
 simp[Mh.aft,ha,Mh.out,Mh.goOn,Mh.found,Mh.restOn,Mh.steal,Mh.look,Mh.settle,Mh.deliver,Mh.parked,hp,c0]at *
 grind
theorem go_11n(h:Mok P M G m)(hi:m.inn=true)(hs:m.st=3)(hp:m.pl=11)(c0:m.yes=false):Mok P M G (m.out.goOn P):=by
 obtain⟨hl,hsec⟩:=h
 rw[loc_11 hp]at hl
 have ha:m.aft=true:=by simp[Mh.aft,hi,hs]
 have hq:(m.out.goOn P).pl=13:=by simp[Mh.out,Mh.goOn,Mh.found,Mh.restOn,Mh.steal,Mh.look,Mh.settle,Mh.deliver,Mh.parked,hp,c0]
 refine⟨?_,Sec.none (by rw[hq];omega) (by simp[Mh.out,Mh.goOn,Mh.found,Mh.restOn,Mh.steal,Mh.look,Mh.settle,Mh.deliver,Mh.parked,hp,c0]) (by simp[Mh.out,Mh.goOn,Mh.found,Mh.restOn,Mh.steal,Mh.look,Mh.settle,Mh.deliver,Mh.parked,hp,c0])⟩
 rw[loc_13 hq]
 simp[Mh.aft,ha,Mh.out,Mh.goOn,Mh.found,Mh.restOn,Mh.steal,Mh.look,Mh.settle,Mh.deliver,Mh.parked,hp,c0]at *
 grind
theorem go_13p(h:Mok P M G m)(hi:m.inn=true)(hs:m.st=3)(hp:m.pl=13)(c0:¬m.p = -1):Mok P M G (m.out.goOn P):=by
 obtain⟨hl,hsec⟩:=h
 rw[loc_13 hp]at hl
 have ha:m.aft=true:=by simp[Mh.aft,hi,hs]
 have hq:(m.out.goOn P).pl=4:=by simp[Mh.out,Mh.goOn,Mh.found,Mh.restOn,Mh.steal,Mh.look,Mh.settle,Mh.deliver,Mh.parked,hp,c0]
 refine⟨?_,Sec.none (by rw[hq];omega) (by simp[Mh.out,Mh.goOn,Mh.found,Mh.restOn,Mh.steal,Mh.look,Mh.settle,Mh.deliver,Mh.parked,hp,c0]) (by simp[Mh.out,Mh.goOn,Mh.found,Mh.restOn,Mh.steal,Mh.look,Mh.settle,Mh.deliver,Mh.parked,hp,c0])⟩
 rw[loc_4 hq]
 simp[Mh.aft,ha,Mh.out,Mh.goOn,Mh.found,Mh.restOn,Mh.steal,Mh.look,Mh.settle,Mh.deliver,Mh.parked,hp,c0]at *
 grind
theorem go_13y(h:Mok P M G m)(hi:m.inn=true)(hs:m.st=3)(hp:m.pl=13)(c0:m.p = -1)(c1:m.yes=true):Mok P M G (m.out.goOn P):=by
 obtain⟨hl,hsec⟩:=h
 rw[loc_13 hp]at hl
 have ha:m.aft=true:=by simp[Mh.aft,hi,hs]
 have hq:(m.out.goOn P).pl=14:=by simp[Mh.out,Mh.goOn,Mh.found,Mh.restOn,Mh.steal,Mh.look,Mh.settle,Mh.deliver,Mh.parked,hp,c0,c1]
 refine⟨?_,Sec.none (by rw[hq];omega) (by simp[Mh.out,Mh.goOn,Mh.found,Mh.restOn,Mh.steal,Mh.look,Mh.settle,Mh.deliver,Mh.parked,hp,c0,c1]) (by simp[Mh.out,Mh.goOn,Mh.found,Mh.restOn,Mh.steal,Mh.look,Mh.settle,Mh.deliver,Mh.parked,hp,c0,c1])⟩
 rw[loc_14 hq]
 simp[Mh.aft,ha,Mh.out,Mh.goOn,Mh.found,Mh.restOn,Mh.steal,Mh.look,Mh.settle,Mh.deliver,Mh.parked,hp,c0,c1]at *
 grind
theorem go_13n(h:Mok P M G m)(hi:m.inn=true)(hs:m.st=3)(hp:m.pl=13)(c0:m.p = -1)(c1:m.yes=false):Mok P M G (m.out.goOn P):=by
 obtain⟨hl,hsec⟩:=h
 rw[loc_13 hp]at hl
 have ha:m.aft=true:=by simp[Mh.aft,hi,hs]
 have hq:(m.out.goOn P).pl=16:=by simp[Mh.out,Mh.goOn,Mh.found,Mh.restOn,Mh.steal,Mh.look,Mh.settle,Mh.deliver,Mh.parked,hp,c0,c1]
 refine⟨?_,Sec.none (by rw[hq];omega) (by simp[Mh.out,Mh.goOn,Mh.found,Mh.restOn,Mh.steal,Mh.look,Mh.settle,Mh.deliver,Mh.parked,hp,c0,c1]) (by simp[Mh.out,Mh.goOn,Mh.found,Mh.restOn,Mh.steal,Mh.look,Mh.settle,Mh.deliver,Mh.parked,hp,c0,c1])⟩
 rw[loc_16 hq]
 simp[Mh.aft,ha,Mh.out,Mh.goOn,Mh.found,Mh.restOn,Mh.steal,Mh.look,Mh.settle,Mh.deliver,Mh.parked,hp,c0,c1]at *
 grind
theorem go_14y(h:Mok P M G m)(hi:m.inn=true)(hs:m.st=3)(hp:m.pl=14)(c0:m.yes=true):Mok P M G (m.out.goOn P):=by
 obtain⟨hl,hsec⟩:=h
 rw[loc_14 hp]at hl
 have ha:m.aft=true:=by simp[Mh.aft,hi,hs]
 have hq:(m.out.goOn P).pl=15:=by simp[Mh.out,Mh.goOn,Mh.found,Mh.restOn,Mh.steal,Mh.look,Mh.settle,Mh.deliver,Mh.parked,hp,c0]
 refine⟨?_,Sec.none (by rw[hq];omega) (by simp[Mh.out,Mh.goOn,Mh.found,Mh.restOn,Mh.steal,Mh.look,Mh.settle,Mh.deliver,Mh.parked,hp,c0]) (by simp[Mh.out,Mh.goOn,Mh.found,Mh.restOn,Mh.steal,Mh.look,Mh.settle,Mh.deliver,Mh.parked,hp,c0])⟩
 rw[loc_15 hq]
 simp[Mh.aft,ha,Mh.out,Mh.goOn,Mh.found,Mh.restOn,Mh.steal,Mh.look,Mh.settle,Mh.deliver,Mh.parked,hp,c0]at *
 grind
theorem go_14n(h:Mok P M G m)(hi:m.inn=true)(hs:m.st=3)(hp:m.pl=14)(c0:m.yes=false):Mok P M G (m.out.goOn P):=by
 obtain⟨hl,hsec⟩:=h
 rw[loc_14 hp]at hl
 have ha:m.aft=true:=by simp[Mh.aft,hi,hs]
 have hq:(m.out.goOn P).pl=16:=by simp[Mh.out,Mh.goOn,Mh.found,Mh.restOn,Mh.steal,Mh.look,Mh.settle,Mh.deliver,Mh.parked,hp,c0]
 refine⟨?_,Sec.none (by rw[hq];omega) (by simp[Mh.out,Mh.goOn,Mh.found,Mh.restOn,Mh.steal,Mh.look,Mh.settle,Mh.deliver,Mh.parked,hp,c0]) (by simp[Mh.out,Mh.goOn,Mh.found,Mh.restOn,Mh.steal,Mh.look,Mh.settle,Mh.deliver,Mh.parked,hp,c0])⟩
 rw[loc_16 hq]
 simp[Mh.aft,ha,Mh.out,Mh.goOn,Mh.found,Mh.restOn,Mh.steal,Mh.look,Mh.settle,Mh.deliver,Mh.parked,hp,c0]at *
 grind
theorem go_15y(h:Mok P M G m)(hi:m.inn=true)(hs:m.st=3)(hp:m.pl=15)(c0:m.yes=true):Mok P M G (m.out.goOn P):=by
 obtain⟨hl,hsec⟩:=h
 rw[loc_15 hp]at hl
 have ha:m.aft=true:=by simp[Mh.aft,hi,hs]
 have hq:(m.out.goOn P).pl=25:=by simp[Mh.out,Mh.goOn,Mh.found,Mh.restOn,Mh.steal,Mh.look,Mh.settle,Mh.deliver,Mh.parked,hp,c0]
 refine⟨?_,Sec.none (by rw[hq];omega) (by simp[Mh.out,Mh.goOn,Mh.found,Mh.restOn,Mh.steal,Mh.look,Mh.settle,Mh.deliver,Mh.parked,hp,c0]) (by simp[Mh.out,Mh.goOn,Mh.found,Mh.restOn,Mh.steal,Mh.look,Mh.settle,Mh.deliver,Mh.parked,hp,c0])⟩
 rw[loc_25 hq]
 simp[Mh.aft,ha,Mh.out,Mh.goOn,Mh.found,Mh.restOn,Mh.steal,Mh.look,Mh.settle,Mh.deliver,Mh.parked,hp,c0]at *
 grind
theorem go_15n(h:Mok P M G m)(hi:m.inn=true)(hs:m.st=3)(hp:m.pl=15)(c0:m.yes=false):Mok P M G (m.out.goOn P):=by
 obtain⟨hl,hsec⟩:=h
 rw[loc_15 hp]at hl
 have ha:m.aft=true:=by simp[Mh.aft,hi,hs]
 have hq:(m.out.goOn P).pl=16:=by simp[Mh.out,Mh.goOn,Mh.found,Mh.restOn,Mh.steal,Mh.look,Mh.settle,Mh.deliver,Mh.parked,hp,c0]
 refine⟨?_,Sec.none (by rw[hq];omega) (by simp[Mh.out,Mh.goOn,Mh.found,Mh.restOn,Mh.steal,Mh.look,Mh.settle,Mh.deliver,Mh.parked,hp,c0]) (by simp[Mh.out,Mh.goOn,Mh.found,Mh.restOn,Mh.steal,Mh.look,Mh.settle,Mh.deliver,Mh.parked,hp,c0])⟩
 rw[loc_16 hq]
 simp[Mh.aft,ha,Mh.out,Mh.goOn,Mh.found,Mh.restOn,Mh.steal,Mh.look,Mh.settle,Mh.deliver,Mh.parked,hp,c0]at *
 grind
theorem go_17r(h:Mok P M G m)(hi:m.inn=true)(hs:m.st=3)(hp:m.pl=17)(c0:¬m.rest = []):Mok P M G (m.out.goOn P):=by
 obtain⟨hl,hsec⟩:=h
 rw[loc_17 hp]at hl
 have ha:m.aft=true:=by simp[Mh.aft,hi,hs]
 have hq:(m.out.goOn P).pl=18:=by simp[Mh.out,Mh.goOn,Mh.found,Mh.restOn,Mh.steal,Mh.look,Mh.settle,Mh.deliver,Mh.parked,hp,c0]
 refine⟨?_,Sec.none (by rw[hq];omega) (by simp[Mh.out,Mh.goOn,Mh.found,Mh.restOn,Mh.steal,Mh.look,Mh.settle,Mh.deliver,Mh.parked,hp,c0]) (by simp[Mh.out,Mh.goOn,Mh.found,Mh.restOn,Mh.steal,Mh.look,Mh.settle,Mh.deliver,Mh.parked,hp,c0])⟩
 rw[loc_18 hq]
 simp[Mh.aft,ha,Mh.out,Mh.goOn,Mh.found,Mh.restOn,Mh.steal,Mh.look,Mh.settle,Mh.deliver,Mh.parked,hp,c0]at *
 grind
theorem go_17s(h:Mok P M G m)(hi:m.inn=true)(hs:m.st=3)(hp:m.pl=17)(c0:m.rest = [])(c1:m.spin=true):Mok P M G (m.out.goOn P):=by
 obtain⟨hl,hsec⟩:=h
 rw[loc_17 hp]at hl
 have ha:m.aft=true:=by simp[Mh.aft,hi,hs]
 have hq:(m.out.goOn P).pl=19:=by simp[Mh.out,Mh.goOn,Mh.found,Mh.restOn,Mh.steal,Mh.look,Mh.settle,Mh.deliver,Mh.parked,hp,c0,c1]
 refine⟨?_,Sec.none (by rw[hq];omega) (by simp[Mh.out,Mh.goOn,Mh.found,Mh.restOn,Mh.steal,Mh.look,Mh.settle,Mh.deliver,Mh.parked,hp,c0,c1]) (by simp[Mh.out,Mh.goOn,Mh.found,Mh.restOn,Mh.steal,Mh.look,Mh.settle,Mh.deliver,Mh.parked,hp,c0,c1])⟩
 rw[loc_19 hq]
 simp[Mh.aft,ha,Mh.out,Mh.goOn,Mh.found,Mh.restOn,Mh.steal,Mh.look,Mh.settle,Mh.deliver,Mh.parked,hp,c0,c1]at *
 grind
theorem go_17n(h:Mok P M G m)(hi:m.inn=true)(hs:m.st=3)(hp:m.pl=17)(c0:m.rest = [])(c1:m.spin=false):Mok P M G (m.out.goOn P):=by
 obtain⟨hl,hsec⟩:=h
 rw[loc_17 hp]at hl
 have ha:m.aft=true:=by simp[Mh.aft,hi,hs]
 have hq:(m.out.goOn P).pl=21:=by simp[Mh.out,Mh.goOn,Mh.found,Mh.restOn,Mh.steal,Mh.look,Mh.settle,Mh.deliver,Mh.parked,hp,c0,c1]
 refine⟨?_,Sec.none (by rw[hq];omega) (by simp[Mh.out,Mh.goOn,Mh.found,Mh.restOn,Mh.steal,Mh.look,Mh.settle,Mh.deliver,Mh.parked,hp,c0,c1]) (by simp[Mh.out,Mh.goOn,Mh.found,Mh.restOn,Mh.steal,Mh.look,Mh.settle,Mh.deliver,Mh.parked,hp,c0,c1])⟩
 rw[loc_21 hq]
 simp[Mh.aft,ha,Mh.out,Mh.goOn,Mh.found,Mh.restOn,Mh.steal,Mh.look,Mh.settle,Mh.deliver,Mh.parked,hp,c0,c1]at *
 grind
theorem go_18r(h:Mok P M G m)(hi:m.inn=true)(hs:m.st=3)(hp:m.pl=18)(c0:¬m.rest = []):Mok P M G (m.out.goOn P):=by
 obtain⟨hl,hsec⟩:=h
 rw[loc_18 hp]at hl
 have ha:m.aft=true:=by simp[Mh.aft,hi,hs]
 have hq:(m.out.goOn P).pl=18:=by simp[Mh.out,Mh.goOn,Mh.found,Mh.restOn,Mh.steal,Mh.look,Mh.settle,Mh.deliver,Mh.parked,hp,c0]
 refine⟨?_,Sec.none (by rw[hq];omega) (by simp[Mh.out,Mh.goOn,Mh.found,Mh.restOn,Mh.steal,Mh.look,Mh.settle,Mh.deliver,Mh.parked,hp,c0]) (by simp[Mh.out,Mh.goOn,Mh.found,Mh.restOn,Mh.steal,Mh.look,Mh.settle,Mh.deliver,Mh.parked,hp,c0])⟩
 rw[loc_18 hq]
 simp[Mh.aft,ha,Mh.out,Mh.goOn,Mh.found,Mh.restOn,Mh.steal,Mh.look,Mh.settle,Mh.deliver,Mh.parked,hp,c0]at *
 grind
theorem go_18s(h:Mok P M G m)(hi:m.inn=true)(hs:m.st=3)(hp:m.pl=18)(c0:m.rest = [])(c1:m.spin=true):Mok P M G (m.out.goOn P):=by
 obtain⟨hl,hsec⟩:=h
 rw[loc_18 hp]at hl
 have ha:m.aft=true:=by simp[Mh.aft,hi,hs]
 have hq:(m.out.goOn P).pl=19:=by simp[Mh.out,Mh.goOn,Mh.found,Mh.restOn,Mh.steal,Mh.look,Mh.settle,Mh.deliver,Mh.parked,hp,c0,c1]
 refine⟨?_,Sec.none (by rw[hq];omega) (by simp[Mh.out,Mh.goOn,Mh.found,Mh.restOn,Mh.steal,Mh.look,Mh.settle,Mh.deliver,Mh.parked,hp,c0,c1]) (by simp[Mh.out,Mh.goOn,Mh.found,Mh.restOn,Mh.steal,Mh.look,Mh.settle,Mh.deliver,Mh.parked,hp,c0,c1])⟩
 rw[loc_19 hq]
 simp[Mh.aft,ha,Mh.out,Mh.goOn,Mh.found,Mh.restOn,Mh.steal,Mh.look,Mh.settle,Mh.deliver,Mh.parked,hp,c0,c1]at *
 grind
theorem go_18n(h:Mok P M G m)(hi:m.inn=true)(hs:m.st=3)(hp:m.pl=18)(c0:m.rest = [])(c1:m.spin=false):Mok P M G (m.out.goOn P):=by
 obtain⟨hl,hsec⟩:=h
 rw[loc_18 hp]at hl
 have ha:m.aft=true:=by simp[Mh.aft,hi,hs]
 have hq:(m.out.goOn P).pl=21:=by simp[Mh.out,Mh.goOn,Mh.found,Mh.restOn,Mh.steal,Mh.look,Mh.settle,Mh.deliver,Mh.parked,hp,c0,c1]
 refine⟨?_,Sec.none (by rw[hq];omega) (by simp[Mh.out,Mh.goOn,Mh.found,Mh.restOn,Mh.steal,Mh.look,Mh.settle,Mh.deliver,Mh.parked,hp,c0,c1]) (by simp[Mh.out,Mh.goOn,Mh.found,Mh.restOn,Mh.steal,Mh.look,Mh.settle,Mh.deliver,Mh.parked,hp,c0,c1])⟩
 rw[loc_21 hq]
 simp[Mh.aft,ha,Mh.out,Mh.goOn,Mh.found,Mh.restOn,Mh.steal,Mh.look,Mh.settle,Mh.deliver,Mh.parked,hp,c0,c1]at *
 grind
theorem go_23t(h:Mok P M G m)(hi:m.inn=true)(hs:m.st=3)(hp:m.pl=23)(c0:¬m.tg = -1):Mok P M G (m.out.goOn P):=by
 obtain⟨hl,hsec⟩:=h
 rw[loc_23 hp]at hl
 have ha:m.aft=true:=by simp[Mh.aft,hi,hs]
 have hq:(m.out.goOn P).pl=24:=by simp[Mh.out,Mh.goOn,Mh.found,Mh.restOn,Mh.steal,Mh.look,Mh.settle,Mh.deliver,Mh.parked,hp,c0]
 refine⟨?_,Sec.none (by rw[hq];omega) (by simp[Mh.out,Mh.goOn,Mh.found,Mh.restOn,Mh.steal,Mh.look,Mh.settle,Mh.deliver,Mh.parked,hp,c0]) (by simp[Mh.out,Mh.goOn,Mh.found,Mh.restOn,Mh.steal,Mh.look,Mh.settle,Mh.deliver,Mh.parked,hp,c0])⟩
 rw[loc_24 hq]
 simp[Mh.aft,ha,Mh.out,Mh.goOn,Mh.found,Mh.restOn,Mh.steal,Mh.look,Mh.settle,Mh.deliver,Mh.parked,hp,c0]at *
 grind
theorem go_23b0(h:Mok P M G m)(hi:m.inn=true)(hs:m.st=3)(hp:m.pl=23)(c0:m.tg = -1)(c1:m.back=0):Mok P M G (m.out.goOn P):=by
 obtain⟨hl,hsec⟩:=h
 rw[loc_23 hp]at hl
 have ha:m.aft=true:=by simp[Mh.aft,hi,hs]
 have hq:(m.out.goOn P).pl=0:=by simp[Mh.out,Mh.goOn,Mh.found,Mh.restOn,Mh.steal,Mh.look,Mh.settle,Mh.deliver,Mh.parked,hp,c0,c1]
 refine⟨?_,Sec.none (by rw[hq];omega) (by simp[Mh.out,Mh.goOn,Mh.found,Mh.restOn,Mh.steal,Mh.look,Mh.settle,Mh.deliver,Mh.parked,hp,c0,c1]) (by simp[Mh.out,Mh.goOn,Mh.found,Mh.restOn,Mh.steal,Mh.look,Mh.settle,Mh.deliver,Mh.parked,hp,c0,c1])⟩
 rw[loc_0 hq]
 simp[Mh.aft,ha,Mh.out,Mh.goOn,Mh.found,Mh.restOn,Mh.steal,Mh.look,Mh.settle,Mh.deliver,Mh.parked,hp,c0,c1]at *
 grind
theorem go_23b1(h:Mok P M G m)(hi:m.inn=true)(hs:m.st=3)(hp:m.pl=23)(c0:m.tg = -1)(c1:m.back=1):Mok P M G (m.out.goOn P):=by
 obtain⟨hl,hsec⟩:=h
 rw[loc_23 hp]at hl
 have ha:m.aft=true:=by simp[Mh.aft,hi,hs]
 have hq:(m.out.goOn P).pl=1:=by simp[Mh.out,Mh.goOn,Mh.found,Mh.restOn,Mh.steal,Mh.look,Mh.settle,Mh.deliver,Mh.parked,hp,c0,c1]
 refine⟨?_,Sec.none (by rw[hq];omega) (by simp[Mh.out,Mh.goOn,Mh.found,Mh.restOn,Mh.steal,Mh.look,Mh.settle,Mh.deliver,Mh.parked,hp,c0,c1]) (by simp[Mh.out,Mh.goOn,Mh.found,Mh.restOn,Mh.steal,Mh.look,Mh.settle,Mh.deliver,Mh.parked,hp,c0,c1])⟩
 rw[loc_1 hq]
 simp[Mh.aft,ha,Mh.out,Mh.goOn,Mh.found,Mh.restOn,Mh.steal,Mh.look,Mh.settle,Mh.deliver,Mh.parked,hp,c0,c1]at *
 grind
theorem go_23b20(h:Mok P M G m)(hi:m.inn=true)(hs:m.st=3)(hp:m.pl=23)(c0:m.tg = -1)(c1:m.back=20):Mok P M G (m.out.goOn P):=by
 obtain⟨hl,hsec⟩:=h
 rw[loc_23 hp]at hl
 have ha:m.aft=true:=by simp[Mh.aft,hi,hs]
 have hq:(m.out.goOn P).pl=20:=by simp[Mh.out,Mh.goOn,Mh.found,Mh.restOn,Mh.steal,Mh.look,Mh.settle,Mh.deliver,Mh.parked,hp,c0,c1]
 refine⟨?_,Sec.none (by rw[hq];omega) (by simp[Mh.out,Mh.goOn,Mh.found,Mh.restOn,Mh.steal,Mh.look,Mh.settle,Mh.deliver,Mh.parked,hp,c0,c1]) (by simp[Mh.out,Mh.goOn,Mh.found,Mh.restOn,Mh.steal,Mh.look,Mh.settle,Mh.deliver,Mh.parked,hp,c0,c1])⟩
 rw[loc_20 hq]
 simp[Mh.aft,ha,Mh.out,Mh.goOn,Mh.found,Mh.restOn,Mh.steal,Mh.look,Mh.settle,Mh.deliver,Mh.parked,hp,c0,c1]at *
 grind
theorem go_23b25(h:Mok P M G m)(hi:m.inn=true)(hs:m.st=3)(hp:m.pl=23)(c0:m.tg = -1)(c1:m.back=25):Mok P M G (m.out.goOn P):=by
 obtain⟨hl,hsec⟩:=h
 rw[loc_23 hp]at hl
 have ha:m.aft=true:=by simp[Mh.aft,hi,hs]
 have hq:(m.out.goOn P).pl=25:=by simp[Mh.out,Mh.goOn,Mh.found,Mh.restOn,Mh.steal,Mh.look,Mh.settle,Mh.deliver,Mh.parked,hp,c0,c1]
 refine⟨?_,Sec.none (by rw[hq];omega) (by simp[Mh.out,Mh.goOn,Mh.found,Mh.restOn,Mh.steal,Mh.look,Mh.settle,Mh.deliver,Mh.parked,hp,c0,c1]) (by simp[Mh.out,Mh.goOn,Mh.found,Mh.restOn,Mh.steal,Mh.look,Mh.settle,Mh.deliver,Mh.parked,hp,c0,c1])⟩
 rw[loc_25 hq]
 simp[Mh.aft,ha,Mh.out,Mh.goOn,Mh.found,Mh.restOn,Mh.steal,Mh.look,Mh.settle,Mh.deliver,Mh.parked,hp,c0,c1]at *
 grind
theorem go_25y(h:Mok P M G m)(hi:m.inn=true)(hs:m.st=3)(hp:m.pl=25)(c0:m.yes=true):Mok P M G (m.out.goOn P):=by
 obtain⟨hl,hsec⟩:=h
 rw[loc_25 hp]at hl
 have ha:m.aft=true:=by simp[Mh.aft,hi,hs]
 have hq:(m.out.goOn P).pl=26:=by simp[Mh.out,Mh.goOn,Mh.found,Mh.restOn,Mh.steal,Mh.look,Mh.settle,Mh.deliver,Mh.parked,hp,c0]
 refine⟨?_,Sec.none (by rw[hq];omega) (by simp[Mh.out,Mh.goOn,Mh.found,Mh.restOn,Mh.steal,Mh.look,Mh.settle,Mh.deliver,Mh.parked,hp,c0]) (by simp[Mh.out,Mh.goOn,Mh.found,Mh.restOn,Mh.steal,Mh.look,Mh.settle,Mh.deliver,Mh.parked,hp,c0])⟩
 rw[loc_26 hq]
 simp[Mh.aft,ha,Mh.out,Mh.goOn,Mh.found,Mh.restOn,Mh.steal,Mh.look,Mh.settle,Mh.deliver,Mh.parked,hp,c0]at *
 grind
theorem go_25a1(h:Mok P M G m)(hi:m.inn=true)(hs:m.st=3)(hp:m.pl=25)(c0:m.yes=false)(c1:m.after=1):Mok P M G (m.out.goOn P):=by
 obtain⟨hl,hsec⟩:=h
 rw[loc_25 hp]at hl
 have ha:m.aft=true:=by simp[Mh.aft,hi,hs]
 have hq:(m.out.goOn P).pl=1:=by simp[Mh.out,Mh.goOn,Mh.found,Mh.restOn,Mh.steal,Mh.look,Mh.settle,Mh.deliver,Mh.parked,hp,c0,c1]
 refine⟨?_,Sec.none (by rw[hq];omega) (by simp[Mh.out,Mh.goOn,Mh.found,Mh.restOn,Mh.steal,Mh.look,Mh.settle,Mh.deliver,Mh.parked,hp,c0,c1]) (by simp[Mh.out,Mh.goOn,Mh.found,Mh.restOn,Mh.steal,Mh.look,Mh.settle,Mh.deliver,Mh.parked,hp,c0,c1])⟩
 rw[loc_1 hq]
 simp[Mh.aft,ha,Mh.out,Mh.goOn,Mh.found,Mh.restOn,Mh.steal,Mh.look,Mh.settle,Mh.deliver,Mh.parked,hp,c0,c1]at *
 grind
theorem go_25a2(h:Mok P M G m)(hi:m.inn=true)(hs:m.st=3)(hp:m.pl=25)(c0:m.yes=false)(c1:m.after=2):Mok P M G (m.out.goOn P):=by
 obtain⟨hl,hsec⟩:=h
 rw[loc_25 hp]at hl
 have ha:m.aft=true:=by simp[Mh.aft,hi,hs]
 have hq:(m.out.goOn P).pl=2:=by simp[Mh.out,Mh.goOn,Mh.found,Mh.restOn,Mh.steal,Mh.look,Mh.settle,Mh.deliver,Mh.parked,hp,c0,c1]
 refine⟨?_,Sec.none (by rw[hq];omega) (by simp[Mh.out,Mh.goOn,Mh.found,Mh.restOn,Mh.steal,Mh.look,Mh.settle,Mh.deliver,Mh.parked,hp,c0,c1]) (by simp[Mh.out,Mh.goOn,Mh.found,Mh.restOn,Mh.steal,Mh.look,Mh.settle,Mh.deliver,Mh.parked,hp,c0,c1])⟩
 rw[loc_2 hq]
 simp[Mh.aft,ha,Mh.out,Mh.goOn,Mh.found,Mh.restOn,Mh.steal,Mh.look,Mh.settle,Mh.deliver,Mh.parked,hp,c0,c1]at *
 grind
theorem go_25a13(h:Mok P M G m)(hi:m.inn=true)(hs:m.st=3)(hp:m.pl=25)(c0:m.yes=false)(c1:m.after=13):Mok P M G (m.out.goOn P):=by
 obtain⟨hl,hsec⟩:=h
 rw[loc_25 hp]at hl
 have ha:m.aft=true:=by simp[Mh.aft,hi,hs]
 have hq:(m.out.goOn P).pl=13:=by simp[Mh.out,Mh.goOn,Mh.found,Mh.restOn,Mh.steal,Mh.look,Mh.settle,Mh.deliver,Mh.parked,hp,c0,c1]
 refine⟨?_,Sec.none (by rw[hq];omega) (by simp[Mh.out,Mh.goOn,Mh.found,Mh.restOn,Mh.steal,Mh.look,Mh.settle,Mh.deliver,Mh.parked,hp,c0,c1]) (by simp[Mh.out,Mh.goOn,Mh.found,Mh.restOn,Mh.steal,Mh.look,Mh.settle,Mh.deliver,Mh.parked,hp,c0,c1])⟩
 rw[loc_13 hq]
 simp[Mh.aft,ha,Mh.out,Mh.goOn,Mh.found,Mh.restOn,Mh.steal,Mh.look,Mh.settle,Mh.deliver,Mh.parked,hp,c0,c1]at *
 grind
theorem go_27(h:Mok P M G m)(hi:m.inn=true)(hs:m.st=3)(hp:m.pl=27)  : Mok P M G (m.out.goOn P):=by
 obtain⟨hl,hsec⟩:=h
 rw[loc_27 hp]at hl
 have ha:m.aft=true:=by simp[Mh.aft,hi,hs]
 have hq:(m.out.goOn P).pl=21:=by simp[Mh.out,Mh.goOn,Mh.found,Mh.restOn,Mh.steal,Mh.look,Mh.settle,Mh.deliver,Mh.parked,hp]
 refine⟨?_,Sec.none (by rw[hq];omega) (by simp[Mh.out,Mh.goOn,Mh.found,Mh.restOn,Mh.steal,Mh.look,Mh.settle,Mh.deliver,Mh.parked,hp]) (by simp[Mh.out,Mh.goOn,Mh.found,Mh.restOn,Mh.steal,Mh.look,Mh.settle,Mh.deliver,Mh.parked,hp])⟩
 rw[loc_21 hq]
 simp[Mh.aft,ha,Mh.out,Mh.goOn,Mh.found,Mh.restOn,Mh.steal,Mh.look,Mh.settle,Mh.deliver,Mh.parked,hp]at *
 grind
theorem go_28r(h:Mok P M G m)(hi:m.inn=true)(hs:m.st=3)(hp:m.pl=28)(c0:¬m.rest = []):Mok P M G (m.out.goOn P):=by
 obtain⟨hl,hsec⟩:=h
 rw[loc_28 hp]at hl
 have ha:m.aft=true:=by simp[Mh.aft,hi,hs]
 have hq:(m.out.goOn P).pl=18:=by simp[Mh.out,Mh.goOn,Mh.found,Mh.restOn,Mh.steal,Mh.look,Mh.settle,Mh.deliver,Mh.parked,hp,c0]
 refine⟨?_,Sec.none (by rw[hq];omega) (by simp[Mh.out,Mh.goOn,Mh.found,Mh.restOn,Mh.steal,Mh.look,Mh.settle,Mh.deliver,Mh.parked,hp,c0]) (by simp[Mh.out,Mh.goOn,Mh.found,Mh.restOn,Mh.steal,Mh.look,Mh.settle,Mh.deliver,Mh.parked,hp,c0])⟩
 rw[loc_18 hq]
 simp[Mh.aft,ha,Mh.out,Mh.goOn,Mh.found,Mh.restOn,Mh.steal,Mh.look,Mh.settle,Mh.deliver,Mh.parked,hp,c0]at *
 grind
theorem go_28n(h:Mok P M G m)(hi:m.inn=true)(hs:m.st=3)(hp:m.pl=28)(c0:m.rest = [])(c1:m.spin=false):Mok P M G (m.out.goOn P):=by
 obtain⟨hl,hsec⟩:=h
 rw[loc_28 hp]at hl
 have ha:m.aft=true:=by simp[Mh.aft,hi,hs]
 have hq:(m.out.goOn P).pl=21:=by simp[Mh.out,Mh.goOn,Mh.found,Mh.restOn,Mh.steal,Mh.look,Mh.settle,Mh.deliver,Mh.parked,hp,c0,c1]
 refine⟨?_,Sec.none (by rw[hq];omega) (by simp[Mh.out,Mh.goOn,Mh.found,Mh.restOn,Mh.steal,Mh.look,Mh.settle,Mh.deliver,Mh.parked,hp,c0,c1]) (by simp[Mh.out,Mh.goOn,Mh.found,Mh.restOn,Mh.steal,Mh.look,Mh.settle,Mh.deliver,Mh.parked,hp,c0,c1])⟩
 rw[loc_21 hq]
 simp[Mh.aft,ha,Mh.out,Mh.goOn,Mh.found,Mh.restOn,Mh.steal,Mh.look,Mh.settle,Mh.deliver,Mh.parked,hp,c0,c1]at *
 grind
theorem go_29y(h:Mok P M G m)(hi:m.inn=true)(hs:m.st=3)(hp:m.pl=29)(c0:m.yes=true):Mok P M G (m.out.goOn P):=by
 obtain⟨hl,hsec⟩:=h
 rw[loc_29 hp]at hl
 have ha:m.aft=true:=by simp[Mh.aft,hi,hs]
 have hq:(m.out.goOn P).pl=25:=by simp[Mh.out,Mh.goOn,Mh.found,Mh.restOn,Mh.steal,Mh.look,Mh.settle,Mh.deliver,Mh.parked,hp,c0]
 refine⟨?_,Sec.none (by rw[hq];omega) (by simp[Mh.out,Mh.goOn,Mh.found,Mh.restOn,Mh.steal,Mh.look,Mh.settle,Mh.deliver,Mh.parked,hp,c0]) (by simp[Mh.out,Mh.goOn,Mh.found,Mh.restOn,Mh.steal,Mh.look,Mh.settle,Mh.deliver,Mh.parked,hp,c0])⟩
 rw[loc_25 hq]
 simp[Mh.aft,ha,Mh.out,Mh.goOn,Mh.found,Mh.restOn,Mh.steal,Mh.look,Mh.settle,Mh.deliver,Mh.parked,hp,c0]at *
 grind
theorem go_29n(h:Mok P M G m)(hi:m.inn=true)(hs:m.st=3)(hp:m.pl=29)(c0:m.yes=false):Mok P M G (m.out.goOn P):=by
 obtain⟨hl,hsec⟩:=h
 rw[loc_29 hp]at hl
 have ha:m.aft=true:=by simp[Mh.aft,hi,hs]
 have hq:(m.out.goOn P).pl=1:=by simp[Mh.out,Mh.goOn,Mh.found,Mh.restOn,Mh.steal,Mh.look,Mh.settle,Mh.deliver,Mh.parked,hp,c0]
 refine⟨?_,Sec.none (by rw[hq];omega) (by simp[Mh.out,Mh.goOn,Mh.found,Mh.restOn,Mh.steal,Mh.look,Mh.settle,Mh.deliver,Mh.parked,hp,c0]) (by simp[Mh.out,Mh.goOn,Mh.found,Mh.restOn,Mh.steal,Mh.look,Mh.settle,Mh.deliver,Mh.parked,hp,c0])⟩
 rw[loc_1 hq]
 simp[Mh.aft,ha,Mh.out,Mh.goOn,Mh.found,Mh.restOn,Mh.steal,Mh.look,Mh.settle,Mh.deliver,Mh.parked,hp,c0]at *
 grind
theorem go_30e(h:Mok P M G m)(hi:m.inn=true)(hs:m.st=3)(hp:m.pl=30)(c0:¬m.g = -1):Mok P M G (m.out.goOn P):=by
 obtain⟨hl,hsec⟩:=h
 rw[loc_30 hp]at hl
 have ha:m.aft=true:=by simp[Mh.aft,hi,hs]
 have hq:(m.out.goOn P).pl=0:=by simp[Mh.out,Mh.goOn,Mh.found,Mh.restOn,Mh.steal,Mh.look,Mh.settle,Mh.deliver,Mh.parked,hp,c0]
 refine⟨?_,Sec.none (by rw[hq];omega) (by simp[Mh.out,Mh.goOn,Mh.found,Mh.restOn,Mh.steal,Mh.look,Mh.settle,Mh.deliver,Mh.parked,hp,c0]) (by simp[Mh.out,Mh.goOn,Mh.found,Mh.restOn,Mh.steal,Mh.look,Mh.settle,Mh.deliver,Mh.parked,hp,c0])⟩
 rw[loc_0 hq]
 simp[Mh.aft,ha,Mh.out,Mh.goOn,Mh.found,Mh.restOn,Mh.steal,Mh.look,Mh.settle,Mh.deliver,Mh.parked,hp,c0]at *
 grind
theorem go_30y(h:Mok P M G m)(hi:m.inn=true)(hs:m.st=3)(hp:m.pl=30)(c0:m.g = -1)(c1:m.yes=true):Mok P M G (m.out.goOn P):=by
 obtain⟨hl,hsec⟩:=h
 rw[loc_30 hp]at hl
 have ha:m.aft=true:=by simp[Mh.aft,hi,hs]
 have hq:(m.out.goOn P).pl=25:=by simp[Mh.out,Mh.goOn,Mh.found,Mh.restOn,Mh.steal,Mh.look,Mh.settle,Mh.deliver,Mh.parked,hp,c0,c1]
 refine⟨?_,Sec.none (by rw[hq];omega) (by simp[Mh.out,Mh.goOn,Mh.found,Mh.restOn,Mh.steal,Mh.look,Mh.settle,Mh.deliver,Mh.parked,hp,c0,c1]) (by simp[Mh.out,Mh.goOn,Mh.found,Mh.restOn,Mh.steal,Mh.look,Mh.settle,Mh.deliver,Mh.parked,hp,c0,c1])⟩
 rw[loc_25 hq]
 simp[Mh.aft,ha,Mh.out,Mh.goOn,Mh.found,Mh.restOn,Mh.steal,Mh.look,Mh.settle,Mh.deliver,Mh.parked,hp,c0,c1]at *
 grind
theorem go_30n(h:Mok P M G m)(hi:m.inn=true)(hs:m.st=3)(hp:m.pl=30)(c0:m.g = -1)(c1:m.yes=false):Mok P M G (m.out.goOn P):=by
 obtain⟨hl,hsec⟩:=h
 rw[loc_30 hp]at hl
 have ha:m.aft=true:=by simp[Mh.aft,hi,hs]
 have hq:(m.out.goOn P).pl=1:=by simp[Mh.out,Mh.goOn,Mh.found,Mh.restOn,Mh.steal,Mh.look,Mh.settle,Mh.deliver,Mh.parked,hp,c0,c1]
 refine⟨?_,Sec.none (by rw[hq];omega) (by simp[Mh.out,Mh.goOn,Mh.found,Mh.restOn,Mh.steal,Mh.look,Mh.settle,Mh.deliver,Mh.parked,hp,c0,c1]) (by simp[Mh.out,Mh.goOn,Mh.found,Mh.restOn,Mh.steal,Mh.look,Mh.settle,Mh.deliver,Mh.parked,hp,c0,c1])⟩
 rw[loc_1 hq]
 simp[Mh.aft,ha,Mh.out,Mh.goOn,Mh.found,Mh.restOn,Mh.steal,Mh.look,Mh.settle,Mh.deliver,Mh.parked,hp,c0,c1]at *
 grind
theorem ps_1(h:Mok P M G m)(hi:m.inn=false)(hp:m.pl=1)  : Mok P M G { m with pl:=3 }:=by
 obtain⟨hl,hsec⟩:=h
 rw[loc_1 hp]at hl
 have hso:=hsec.so hi
 refine⟨?_,Sec.none (by simp[Mh.steal,Mh.deliver, *]) (by simp[Mh.steal,Mh.deliver, *]) (by simp[Mh.steal,Mh.deliver, *])⟩
 rw[loc_3 (by simp[Mh.steal,Mh.deliver, *])]
 simp[Mh.aft,Mh.steal,Mh.deliver,hi]at *
 grind
theorem ps_1d(h:Mok P M G m)(hi:m.inn=false)(hp:m.pl=1)  : Mok P M G (m.deliver 2):=by
 obtain⟨hl,hsec⟩:=h
 rw[loc_1 hp]at hl
 have hso:=hsec.so hi
 refine⟨?_,Sec.none (by simp[Mh.steal,Mh.deliver, *]) (by simp[Mh.steal,Mh.deliver, *]) (by simp[Mh.steal,Mh.deliver, *])⟩
 rw[loc_25 (by simp[Mh.steal,Mh.deliver, *])]
 simp[Mh.aft,Mh.steal,Mh.deliver,hi]at *
 grind
theorem ps_5t(h:Mok P M G m)(hi:m.inn=false)(hp:m.pl=5)(c0:(1:Int)<P):Mok P M G (({ m with spin:=true }:Mh).steal P 1):=by
 obtain⟨hl,hsec⟩:=h
 rw[loc_5 hp]at hl
 have hso:=hsec.so hi
 refine⟨?_,Sec.none (by simp[Mh.steal,Mh.deliver, *]) (by simp[Mh.steal,Mh.deliver, *]) (by simp[Mh.steal,Mh.deliver, *])⟩
 rw[loc_6 (by simp[Mh.steal,Mh.deliver, *])]
 simp[Mh.aft,Mh.steal,Mh.deliver,hi]at *
 grind
theorem ps_5z(h:Mok P M G m)(hi:m.inn=false)(hp:m.pl=5)(c0:¬(1:Int)<P):Mok P M G (({ m with spin:=true }:Mh).steal P 1):=by
 obtain⟨hl,hsec⟩:=h
 rw[loc_5 hp]at hl
 have hso:=hsec.so hi
 refine⟨?_,Sec.none (by simp[Mh.steal,Mh.deliver, *]) (by simp[Mh.steal,Mh.deliver, *]) (by simp[Mh.steal,Mh.deliver, *])⟩
 rw[loc_7 (by simp[Mh.steal,Mh.deliver, *])]
 simp[Mh.aft,Mh.steal,Mh.deliver,hi]at *
 grind
theorem ps_8(h:Mok P M G m)(hi:m.inn=false)(hp:m.pl=8)(c0:0<P):Mok P M G { m with spin:=false,i:=0,pl:=9 }:=by
 obtain⟨hl,hsec⟩:=h
 rw[loc_8 hp]at hl
 have hso:=hsec.so hi
 refine⟨?_,Sec.none (by simp[Mh.steal,Mh.deliver, *]) (by simp[Mh.steal,Mh.deliver, *]) (by simp[Mh.steal,Mh.deliver, *])⟩
 rw[loc_9 (by simp[Mh.steal,Mh.deliver, *])]
 simp[Mh.aft,Mh.steal,Mh.deliver,hi]at *
 grind
theorem ps_12(h:Mok P M G m)(hi:m.inn=false)(hp:m.pl=12)  : Mok P M G { m with spin:=true,pl:=4 }:=by
 obtain⟨hl,hsec⟩:=h
 rw[loc_12 hp]at hl
 have hso:=hsec.so hi
 refine⟨?_,Sec.none (by simp[Mh.steal,Mh.deliver, *]) (by simp[Mh.steal,Mh.deliver, *]) (by simp[Mh.steal,Mh.deliver, *])⟩
 rw[loc_4 (by simp[Mh.steal,Mh.deliver, *])]
 simp[Mh.aft,Mh.steal,Mh.deliver,hi]at *
 grind
theorem ps_19(h:Mok P M G m)(hi:m.inn=false)(hp:m.pl=19)  : Mok P M G { m with spin:=false,pl:=21 }:=by
 obtain⟨hl,hsec⟩:=h
 rw[loc_19 hp]at hl
 have hso:=hsec.so hi
 refine⟨?_,Sec.none (by simp[Mh.steal,Mh.deliver, *]) (by simp[Mh.steal,Mh.deliver, *]) (by simp[Mh.steal,Mh.deliver, *])⟩
 rw[loc_21 (by simp[Mh.steal,Mh.deliver, *])]
 simp[Mh.aft,Mh.steal,Mh.deliver,hi]at *
 grind
theorem ps_16d(h:Mok P M G m)(hi:m.inn=false)(hp:m.pl=16)(c0:m.nx = -1):Mok P M G (m.deliver 13):=by
 obtain⟨hl,hsec⟩:=h
 rw[loc_16 hp]at hl
 have hso:=hsec.so hi
 refine⟨?_,Sec.none (by simp[Mh.steal,Mh.deliver, *]) (by simp[Mh.steal,Mh.deliver, *]) (by simp[Mh.steal,Mh.deliver, *])⟩
 rw[loc_25 (by simp[Mh.steal,Mh.deliver, *])]
 simp[Mh.aft,Mh.steal,Mh.deliver,hi]at *
 grind
theorem ps_16r(h:Mok P M G m)(hi:m.inn=false)(hp:m.pl=16)(c0:¬m.nx = -1):Mok P M G { m with p:=m.nx,nx := -1,spin:=true,pl:=4 }:=by
 obtain⟨hl,hsec⟩:=h
 rw[loc_16 hp]at hl
 have hso:=hsec.so hi
 refine⟨?_,Sec.none (by simp[Mh.steal,Mh.deliver, *]) (by simp[Mh.steal,Mh.deliver, *]) (by simp[Mh.steal,Mh.deliver, *])⟩
 rw[loc_4 (by simp[Mh.steal,Mh.deliver, *])]
 simp[Mh.aft,Mh.steal,Mh.deliver,hi]at *
 grind
theorem ps_20(h:Mok P M G m)(hi:m.inn=false)(hp:m.pl=20)  : Mok P M G { m with g:=m.got,got := -1,pl:=0 }:=by
 obtain⟨hl,hsec⟩:=h
 rw[loc_20 hp]at hl
 have hso:=hsec.so hi
 refine⟨?_,Sec.none (by simp[Mh.steal,Mh.deliver, *]) (by simp[Mh.steal,Mh.deliver, *]) (by simp[Mh.steal,Mh.deliver, *])⟩
 rw[loc_0 (by simp[Mh.steal,Mh.deliver, *])]
 simp[Mh.aft,Mh.steal,Mh.deliver,hi]at *
 grind
theorem ps_21(h:Mok P M G m)(hi:m.inn=false)(hp:m.pl=21)  : Mok P M G { m with pl:=22 }:=by
 obtain⟨hl,hsec⟩:=h
 rw[loc_21 hp]at hl
 have hso:=hsec.so hi
 refine⟨?_,Sec.none (by simp[Mh.steal,Mh.deliver, *]) (by simp[Mh.steal,Mh.deliver, *]) (by simp[Mh.steal,Mh.deliver, *])⟩
 rw[loc_22 (by simp[Mh.steal,Mh.deliver, *])]
 simp[Mh.aft,Mh.steal,Mh.deliver,hi]at *
 grind
theorem ps_22(h:Mok P M G m)(hi:m.inn=false)(hp:m.pl=22)  : Mok P M G { m with pl:=23 }:=by
 obtain⟨hl,hsec⟩:=h
 rw[loc_22 hp]at hl
 have hso:=hsec.so hi
 refine⟨?_,Sec.none (by simp[Mh.steal,Mh.deliver, *]) (by simp[Mh.steal,Mh.deliver, *]) (by simp[Mh.steal,Mh.deliver, *])⟩
 rw[loc_23 (by simp[Mh.steal,Mh.deliver, *])]
 simp[Mh.aft,Mh.steal,Mh.deliver,hi]at *
 grind
theorem ps_21b0(h:Mok P M G m)(hi:m.inn=false)(hp:m.pl=21)(c0:m.back=0):Mok P M G { m with pl:=m.back }:=by
 obtain⟨hl,hsec⟩:=h
 rw[loc_21 hp]at hl
 have hso:=hsec.so hi
 refine⟨?_,Sec.none (by simp[Mh.steal,Mh.deliver, *]) (by simp[Mh.steal,Mh.deliver, *]) (by simp[Mh.steal,Mh.deliver, *])⟩
 rw[loc_0 (by simp[Mh.steal,Mh.deliver, *])]
 simp[Mh.aft,Mh.steal,Mh.deliver,hi]at *
 grind
theorem ps_21b1(h:Mok P M G m)(hi:m.inn=false)(hp:m.pl=21)(c0:m.back=1):Mok P M G { m with pl:=m.back }:=by
 obtain⟨hl,hsec⟩:=h
 rw[loc_21 hp]at hl
 have hso:=hsec.so hi
 refine⟨?_,Sec.none (by simp[Mh.steal,Mh.deliver, *]) (by simp[Mh.steal,Mh.deliver, *]) (by simp[Mh.steal,Mh.deliver, *])⟩
 rw[loc_1 (by simp[Mh.steal,Mh.deliver, *])]
 simp[Mh.aft,Mh.steal,Mh.deliver,hi]at *
 grind
theorem ps_21b20(h:Mok P M G m)(hi:m.inn=false)(hp:m.pl=21)(c0:m.back=20):Mok P M G { m with pl:=m.back }:=by
 obtain⟨hl,hsec⟩:=h
 rw[loc_21 hp]at hl
 have hso:=hsec.so hi
 refine⟨?_,Sec.none (by simp[Mh.steal,Mh.deliver, *]) (by simp[Mh.steal,Mh.deliver, *]) (by simp[Mh.steal,Mh.deliver, *])⟩
 rw[loc_20 (by simp[Mh.steal,Mh.deliver, *])]
 simp[Mh.aft,Mh.steal,Mh.deliver,hi]at *
 grind
theorem ps_21b25(h:Mok P M G m)(hi:m.inn=false)(hp:m.pl=21)(c0:m.back=25):Mok P M G { m with pl:=m.back }:=by
 obtain⟨hl,hsec⟩:=h
 rw[loc_21 hp]at hl
 have hso:=hsec.so hi
 refine⟨?_,Sec.none (by simp[Mh.steal,Mh.deliver, *]) (by simp[Mh.steal,Mh.deliver, *]) (by simp[Mh.steal,Mh.deliver, *])⟩
 rw[loc_25 (by simp[Mh.steal,Mh.deliver, *])]
 simp[Mh.aft,Mh.steal,Mh.deliver,hi]at *
 grind
theorem ps_22b0(h:Mok P M G m)(hi:m.inn=false)(hp:m.pl=22)(c0:m.back=0):Mok P M G { m with pl:=m.back }:=by
 obtain⟨hl,hsec⟩:=h
 rw[loc_22 hp]at hl
 have hso:=hsec.so hi
 refine⟨?_,Sec.none (by simp[Mh.steal,Mh.deliver, *]) (by simp[Mh.steal,Mh.deliver, *]) (by simp[Mh.steal,Mh.deliver, *])⟩
 rw[loc_0 (by simp[Mh.steal,Mh.deliver, *])]
 simp[Mh.aft,Mh.steal,Mh.deliver,hi]at *
 grind
theorem ps_22b1(h:Mok P M G m)(hi:m.inn=false)(hp:m.pl=22)(c0:m.back=1):Mok P M G { m with pl:=m.back }:=by
 obtain⟨hl,hsec⟩:=h
 rw[loc_22 hp]at hl
 have hso:=hsec.so hi
 refine⟨?_,Sec.none (by simp[Mh.steal,Mh.deliver, *]) (by simp[Mh.steal,Mh.deliver, *]) (by simp[Mh.steal,Mh.deliver, *])⟩
 rw[loc_1 (by simp[Mh.steal,Mh.deliver, *])]
 simp[Mh.aft,Mh.steal,Mh.deliver,hi]at *
 grind
theorem ps_22b20(h:Mok P M G m)(hi:m.inn=false)(hp:m.pl=22)(c0:m.back=20):Mok P M G { m with pl:=m.back }:=by
 obtain⟨hl,hsec⟩:=h
 rw[loc_22 hp]at hl
 have hso:=hsec.so hi
 refine⟨?_,Sec.none (by simp[Mh.steal,Mh.deliver, *]) (by simp[Mh.steal,Mh.deliver, *]) (by simp[Mh.steal,Mh.deliver, *])⟩
 rw[loc_20 (by simp[Mh.steal,Mh.deliver, *])]
 simp[Mh.aft,Mh.steal,Mh.deliver,hi]at *
 grind
theorem ps_22b25(h:Mok P M G m)(hi:m.inn=false)(hp:m.pl=22)(c0:m.back=25):Mok P M G { m with pl:=m.back }:=by
 obtain⟨hl,hsec⟩:=h
 rw[loc_22 hp]at hl
 have hso:=hsec.so hi
 refine⟨?_,Sec.none (by simp[Mh.steal,Mh.deliver, *]) (by simp[Mh.steal,Mh.deliver, *]) (by simp[Mh.steal,Mh.deliver, *])⟩
 rw[loc_25 (by simp[Mh.steal,Mh.deliver, *])]
 simp[Mh.aft,Mh.steal,Mh.deliver,hi]at *
 grind
theorem ps_24b0(h:Mok P M G m)(hi:m.inn=false)(hp:m.pl=24)(c0:m.back=0):Mok P M G { m with tg := -1,pl:=m.back }:=by
 obtain⟨hl,hsec⟩:=h
 rw[loc_24 hp]at hl
 have hso:=hsec.so hi
 refine⟨?_,Sec.none (by simp[Mh.steal,Mh.deliver, *]) (by simp[Mh.steal,Mh.deliver, *]) (by simp[Mh.steal,Mh.deliver, *])⟩
 rw[loc_0 (by simp[Mh.steal,Mh.deliver, *])]
 simp[Mh.aft,Mh.steal,Mh.deliver,hi]at *
 grind
theorem ps_24b1(h:Mok P M G m)(hi:m.inn=false)(hp:m.pl=24)(c0:m.back=1):Mok P M G { m with tg := -1,pl:=m.back }:=by
 obtain⟨hl,hsec⟩:=h
 rw[loc_24 hp]at hl
 have hso:=hsec.so hi
 refine⟨?_,Sec.none (by simp[Mh.steal,Mh.deliver, *]) (by simp[Mh.steal,Mh.deliver, *]) (by simp[Mh.steal,Mh.deliver, *])⟩
 rw[loc_1 (by simp[Mh.steal,Mh.deliver, *])]
 simp[Mh.aft,Mh.steal,Mh.deliver,hi]at *
 grind
theorem ps_24b20(h:Mok P M G m)(hi:m.inn=false)(hp:m.pl=24)(c0:m.back=20):Mok P M G { m with tg := -1,pl:=m.back }:=by
 obtain⟨hl,hsec⟩:=h
 rw[loc_24 hp]at hl
 have hso:=hsec.so hi
 refine⟨?_,Sec.none (by simp[Mh.steal,Mh.deliver, *]) (by simp[Mh.steal,Mh.deliver, *]) (by simp[Mh.steal,Mh.deliver, *])⟩
 rw[loc_20 (by simp[Mh.steal,Mh.deliver, *])]
 simp[Mh.aft,Mh.steal,Mh.deliver,hi]at *
 grind
theorem ps_24b25(h:Mok P M G m)(hi:m.inn=false)(hp:m.pl=24)(c0:m.back=25):Mok P M G { m with tg := -1,pl:=m.back }:=by
 obtain⟨hl,hsec⟩:=h
 rw[loc_24 hp]at hl
 have hso:=hsec.so hi
 refine⟨?_,Sec.none (by simp[Mh.steal,Mh.deliver, *]) (by simp[Mh.steal,Mh.deliver, *]) (by simp[Mh.steal,Mh.deliver, *])⟩
 rw[loc_25 (by simp[Mh.steal,Mh.deliver, *])]
 simp[Mh.aft,Mh.steal,Mh.deliver,hi]at *
 grind
theorem ps_26(h:Mok P M G m)(hi:m.inn=false)(hp:m.pl=26)  : Mok P M G { m with back:=25,pl:=27 }:=by
 obtain⟨hl,hsec⟩:=h
 rw[loc_26 hp]at hl
 have hso:=hsec.so hi
 refine⟨?_,Sec.none (by simp[Mh.steal,Mh.deliver, *]) (by simp[Mh.steal,Mh.deliver, *]) (by simp[Mh.steal,Mh.deliver, *])⟩
 rw[loc_27 (by simp[Mh.steal,Mh.deliver, *])]
 simp[Mh.aft,Mh.steal,Mh.deliver,hi]at *
 grind
theorem ac_1(h:Mok P M G m)(hi:m.inn=false)(hp:m.pl=0)  : Mok P M G { m with got:=m.g,g := -1,back:=1,pl:=27 }:=by
 obtain⟨hl,hsec⟩:=h
 rw[loc_0 hp]at hl
 have hso:=hsec.so hi
 refine⟨?_,Sec.none (by simp[Mh.steal,Mh.deliver, *]) (by simp[Mh.steal,Mh.deliver, *]) (by simp[Mh.steal,Mh.deliver, *])⟩
 rw[loc_27 (by simp[Mh.steal,Mh.deliver, *])]
 simp[Mh.aft,Mh.steal,Mh.deliver,hi]at *
 grind
theorem ac_2(h:Mok P M G m)(hi:m.inn=false)(hp:m.pl=0)  : Mok P M G { m with g := -1,pl:=1 }:=by
 obtain⟨hl,hsec⟩:=h
 rw[loc_0 hp]at hl
 have hso:=hsec.so hi
 refine⟨?_,Sec.none (by simp[Mh.steal,Mh.deliver, *]) (by simp[Mh.steal,Mh.deliver, *]) (by simp[Mh.steal,Mh.deliver, *])⟩
 rw[loc_1 (by simp[Mh.steal,Mh.deliver, *])]
 simp[Mh.aft,Mh.steal,Mh.deliver,hi]at *
 grind
theorem ac_4(h:Mok P M G m)(hi:m.inn=false)(hp:m.pl=0)(x:Int)(hx:0≤x∧x<G):Mok P M G { m with got:=x,pl:=28 }:=by
 obtain⟨hl,hsec⟩:=h
 rw[loc_0 hp]at hl
 have hso:=hsec.so hi
 refine⟨?_,Sec.none (by simp[Mh.steal,Mh.deliver, *]) (by simp[Mh.steal,Mh.deliver, *]) (by simp[Mh.steal,Mh.deliver, *])⟩
 rw[loc_28 (by simp[Mh.steal,Mh.deliver, *])]
 simp[Mh.aft,Mh.steal,Mh.deliver,hi]at *
 grind
theorem ac_6(h:Mok P M G m)(hi:m.inn=false)(hp:m.pl=0)(d:Int):Mok P M G { m with arg:=d,pl:=29 }:=by
 obtain⟨hl,hsec⟩:=h
 rw[loc_0 hp]at hl
 have hso:=hsec.so hi
 refine⟨?_,Sec.none (by simp[Mh.steal,Mh.deliver, *]) (by simp[Mh.steal,Mh.deliver, *]) (by simp[Mh.steal,Mh.deliver, *])⟩
 rw[loc_29 (by simp[Mh.steal,Mh.deliver, *])]
 simp[Mh.aft,Mh.steal,Mh.deliver,hi]at *
 grind
theorem ac_7(h:Mok P M G m)(hi:m.inn=false)(hp:m.pl=0)(d:Int)(hd:0≤d∧d≤65535):Mok P M G { m with arg:=d,pl:=30 }:=by
 obtain⟨hl,hsec⟩:=h
 rw[loc_0 hp]at hl
 have hso:=hsec.so hi
 refine⟨?_,Sec.none (by simp[Mh.steal,Mh.deliver, *]) (by simp[Mh.steal,Mh.deliver, *]) (by simp[Mh.steal,Mh.deliver, *])⟩
 rw[loc_30 (by simp[Mh.steal,Mh.deliver, *])]
 simp[Mh.aft,Mh.steal,Mh.deliver,hi]at *
 grind
end
def hol (m:Mh):List Int:=(if m.got = -1∨m.dlv=true then [] else [m.got]) ++ m.rest
def fR (g:Int)(m:Mh):Nat:=(hol m).count g
def fG (g:Int)(m:Mh):Nat:=if m.g=g then 1 else 0
def fD (g:Int)(m:Mh):Nat:=if m.got=g∧m.dlv=true then 1 else 0
def fK (k g:Int)(m:Mh):Nat:=if m.g=g∧m.pl=k∧m.inn=true∧m.st=2∧m.tm=1 then 1 else 0
def fP (p:Int)(m:Mh):Nat:=(if m.p=p then 1 else 0)+(if m.nx=p then 1 else 0)
def fS (m:Mh):Nat:=(if m.spin=true then 1 else 0)+(if m.nx = -1 then 0 else 1)+(if m.claim=true then 1 else 0)
namespace V
def sm (v:V)(f:Mh→Nat):Nat:=(v.mm.map f).sum
def cR (v:V)(g:Int):Nat:=v.qu.count g+(v.rs.map fun r=>r.list.count g).sum+v.sm (fR g)
def cL (v:V)(g:Int):Nat:=(v.sr.L.map fun e=>e.2.2).count g
def cW (v:V)(g:Int):Nat:=(v.sr.W.map Prod.snd).count g
end V
theorem sum_set{α:Type}(f : α → Nat)(l:List α)(d : α)(i:Nat)(x : α)(h:i<l.length):((l.set i x).map f).sum+f (l.getD i d)=(l.map f).sum+f x:=by
 induction l generalizing i with
 | nil=>simp at h
 | cons y l ih=>
   rcases i with _|i
   ·simp;omega
   ·have:=ih i (by simpa using h)
    simp only[List.set_cons_succ,List.map_cons,List.sum_cons,List.getD_cons_succ]
    omega
section
variable {v v':V}{i:Nat}{m':Mh}
theorem sm_set(e:v'.mm=v.mm.set i m')(h:i<v.mm.length)(f:Mh→Nat):v'.sm f+f (v.mach i)=v.sm f+f m':=by
 unfold V.sm V.mach
 rw[e]
 exact sum_set f v.mm _ i m' h
theorem sm_same(e:v'.mm=v.mm.set i m')(h:i<v.mm.length){f:Mh→Nat}(hf:f m'=f (v.mach i)):v'.sm f=v.sm f:=by
 have:=sm_set e h f
 omega
theorem rs_set(r:RV)(p:Nat)(e:v'.rs=v.rs.set p r)(h:p<v.rs.length)(f:RV→Nat):(v'.rs.map f).sum+f (v.ring p)=(v.rs.map f).sum+f r:=by
 rw[e]
 exact sum_set f v.rs _ p r h
theorem mach_set(e:v'.mm=v.mm.set i m')(h:i<v.mm.length)(j:Nat):v'.mach j=if j=i then m' else v.mach j:=by
 unfold V.mach
 rw[e]
 by_cases hj:j=i
 ·subst hj;simp[h]
 ·simp[hj,List.getElem?_set_ne (Ne.symm hj)]
end
structure Gok(v:V)(g:Int):Prop where
 s7:0≤v.stat g∧v.stat g<7
 r:v.cR g=if v.stat g=1 then 1 else 0
 n:v.sm (fG g)=if v.stat g=2 then 1 else 0
 o:if v.stat g=4 then v.cL g+v.sm (fD g)=1∧v.cW g=0 else if v.stat g=5 then v.cW g+v.sm (fD g)=1∧v.cL g=0 else v.sm (fD g)=0∧v.cL g=v.sm (fK 29 g)∧v.cW g=v.sm (fK 30 g)
structure Lko(n:Nat)(v:V)(k:Nat):Prop where
 le:0≤v.ms.getD (2*k+1) 0∧v.ms.getD (2*k+1) 0≤v.ms.getD (2*k) 0∧v.ms.getD (2*k) 0≤n
 tk:∀ i,i<v.M→(v.mach i).inn=true→(v.mach i).sn=2*(k:Int)→v.ms.getD (2*k+1) 0≤(v.mach i).tk∧(v.mach i).tk<v.ms.getD (2*k) 0∧((v.mach i).st=1∨(v.mach i).tk=v.ms.getD (2*k+1) 0)
 ne:∀ i j,i<v.M→j<v.M→i≠j→(v.mach i).inn=true→(v.mach i).sn=2*(k:Int)→(v.mach j).inn=true→(v.mach j).sn=2*(k:Int)→(v.mach i).tk≠(v.mach j).tk
 ex:∀ t,v.ms.getD (2*k+1) 0≤t→t<v.ms.getD (2*k) 0 → ∃ i,i<v.M∧(v.mach i).inn=true∧(v.mach i).sn=2*(k:Int)∧(v.mach i).tk=t
def memb (v:V)(i:Int):Prop:=i ∈ v.id.ss∨i=v.id.po
structure Ido(v:V):Prop where
 sn:v.id.ss.Nodup
 sr:∀ x ∈ v.id.ss,0≤x∧x<v.M
 po:v.id.po = -1∨(0≤v.id.po∧v.id.po<v.M)
 ps:v.id.po ∉ v.id.ss
 pd:∀ x ∈ v.id.pd,0≤x∧x<v.P
 mb:∀ i:Nat,i<v.M→memb v i→(v.mach i).nx = -1∧(v.mach i).idl=true
structure Rgo(v:V):Prop where
 qu:∀ x ∈ v.qu,0≤x∧x<v.G
 rl:∀ p,p<v.P → ∀ x ∈ (v.ring p).list,0≤x∧x<v.G
 rs:∀ p,p<v.P→0≤(v.ring p).st∧(v.ring p).xs.length≤256
 sl:∀ e ∈ v.sr.L,0≤e.2.2∧e.2.2<v.G
 sw:∀ e ∈ v.sr.W,(0≤e.2∧e.2<v.G)∧0≤e.1∧e.1≤65535
 wn:(v.sr.W.map Prod.fst).Nodup
structure Inv(n:Nat)(v:V):Prop where
 cf:1≤v.P∧v.P≤64∧v.P≤v.M∧v.M≤128∧1≤v.G∧v.G≤4096
 ln:v.mm.length=v.M∧v.rs.length=v.P∧v.tu.length=v.P∧v.ms.length=v.wds∧v.ns.length=v.wds∧v.id.ps.length=v.P
 nt:∀ k,v.spn≤k→v.ms.getD k 0=v.ns.getD k 0
 mo:∀ i,i<v.M→Mok v.P v.M v.G (v.mach i)
 lk:∀ k,k<v.P+2→Lko n v k
 rg:Rgo v
 go:∀ g:Int,0≤g→g<v.G→Gok v g
 id:Ido v
 pr:∀ p:Int,0≤p→p<v.P→v.sm (fP p)+v.id.pd.count p+(if v.id.has p=true then 1 else 0)=1
 sp:v.ms.getD v.spn 0=((v.sm fS+v.id.pd.length:Nat):Int)
 nb:∀ i,i<v.M→v.ns.getD (v.nts+i) 0=0∨v.ns.getD (v.nts+i) 0=1
 cn:v.mc≤n∧v.lg.length≤n∧(∀ t ∈ v.tu,0≤t∧t≤n)∧v.sr.ad≤n
section
variable {n:Nat}{v v':V}{i:Nat}{m':Mh}
theorem Gok.of{g:Int}(h:Gok v g)(e0:v'.stat g=v.stat g)(e1:v'.cR g=v.cR g)(e2:v'.sm (fG g)=v.sm (fG g))(e3:v'.sm (fD g)=v.sm (fD g))(e4:v'.cL g=v.cL g)(e5:v'.cW g=v.cW g)(e6:v'.sm (fK 29 g)=v.sm (fK 29 g))(e7:v'.sm (fK 30 g)=v.sm (fK 30 g)):Gok v' g:=by
 obtain⟨a1,a2,a3,a4⟩:=h
 exact⟨by rw[e0];exact a1,by rw[e1,e0];exact a2,by rw[e2,e0];exact a3,by rw[e0,e3,e4,e5,e6,e7];exact a4⟩
theorem Lko.of{k n':Nat}(h:Lko n v k)(hn:n≤n')(eM:v'.M=v.M)(e0:v'.ms.getD (2*k) 0=v.ms.getD (2*k) 0)(e1:v'.ms.getD (2*k+1) 0=v.ms.getD (2*k+1) 0)
 (em:∀ j,j<v.M→(v'.mach j).inn=(v.mach j).inn∧(v'.mach j).sn=(v.mach j).sn∧(v'.mach j).tk=(v.mach j).tk∧((v.mach j).inn=true→(v'.mach j).st=(v.mach j).st∨(v.mach j).tk=v.ms.getD (2*k+1) 0∨(v.mach j).sn≠2*(k:Int))):Lko n' v' k:=by
 obtain⟨a1,a2,a3,a4⟩:=h
 refine⟨by rw[e0,e1];omega,fun j hj h1 h2 => ?_,fun j l hj hl hne h1 h2 h3 h4 => ?_,fun t h1 h2 => ?_⟩
 ·rw[eM]at hj
  obtain⟨b1,b2,b3,b4⟩:=em j hj
  rw[b1]at h1
  rw[b2]at h2
  have c:=a2 j hj h1 h2
  rw[e0,e1,b3]
  refine⟨c.1,c.2.1,?_⟩
  rcases b4 h1 with b|b|b
  ·rw[b];exact c.2.2
  ·exact .inr b
  ·exact absurd h2 b
 ·rw[eM]at hj hl
  obtain⟨b1,b2,b3,_⟩:=em j hj
  obtain⟨c1,c2,c3,_⟩:=em l hl
  rw[b1]at h1;rw[b2]at h2;rw[c1]at h3;rw[c2]at h4
  rw[b3,c3]
  exact a3 j l hj hl hne h1 h2 h3 h4
 ·rw[e0]at h2;rw[e1]at h1
  obtain⟨j,hj,b1,b2,b3⟩:=a4 t h1 h2
  obtain⟨c1,c2,c3,_⟩:=em j hj
  exact⟨j,by rw[eM];exact hj,by rw[c1];exact b1,by rw[c2];exact b2,by rw[c3];exact b3⟩
theorem lko_put(h:Inv n v){n':Nat}(hn:n≤n')(e:v'.mm=v.mm.set i m')(hi:i<v.M)(eM:v'.M=v.M)(eP:v'.P=v.P)(ew:∀ k,k<2*(v.P+2)→v'.ms.getD k 0=v.ms.getD k 0)(b1:m'.inn=(v.mach i).inn)(b2:m'.sn=(v.mach i).sn)(b3:m'.tk=(v.mach i).tk)(b4:(v.mach i).inn=true→(v.mach i).st=2∨m'.st=(v.mach i).st):∀ k,k<v'.P+2→Lko n' v' k:=by
 intro k hk
 rw[eP]at hk
 have hl:i<v.mm.length:=by rw[h.ln.1];exact hi
 refine(h.lk k hk).of hn eM (ew _ (by omega)) (ew _ (by omega)) fun j hj => ?_
 rw[mach_set e hl j]
 by_cases hj':j=i
 ·subst hj'
  rw[if_pos rfl]
  refine⟨b1,b2,b3,fun hin => ?_⟩
  rcases b4 hin with b|b
  ·by_cases hs:(v.mach j).sn=2*(k:Int)
   ·rcases ((h.lk k hk).tk j hj hin hs).2.2 with c|c
    ·omega
    ·exact .inr (.inl c)
   ·exact .inr (.inr hs)
  ·exact .inl b
 ·rw[if_neg hj']
  exact⟨rfl,rfl,rfl,fun _ => .inl rfl⟩
theorem mk_put(h:Inv n v)(e:v'.mm=v.mm.set i m')(hi:i<v.M)(eM:v'.M=v.M)(eP:v'.P=v.P)(eG:v'.G=v.G)(hm:Mok v.P v.M v.G m'):∀ j,j<v'.M→Mok v'.P v'.M v'.G (v'.mach j):=by
 intro j hj
 rw[eM]at hj
 rw[eM,eP,eG,mach_set e (by rw[h.ln.1];exact hi) j]
 by_cases hj':j=i
 ·rw[if_pos hj'];exact hm
 ·rw[if_neg hj'];exact h.mo j hj
theorem id_put(h:Inv n v)(e:v'.mm=v.mm.set i m')(hi:i<v.M)(eM:v'.M=v.M)(eP:v'.P=v.P)(ei:v'.id=v.id)(hm:memb v i→m'.nx = -1∧m'.idl=true):Ido v':=by
 obtain⟨a1,a2,a3,a4,a5,a6⟩:=h.id
 refine⟨by rw[ei];exact a1,by rw[ei,eM];exact a2,by rw[ei,eM];exact a3,by rw[ei];exact a4,by rw[ei,eP];exact a5,fun j hj hb => ?_⟩
 rw[eM]at hj
 rw[mach_set e (by rw[h.ln.1];exact hi) j]
 have hb':memb v j:=by unfold memb at hb ⊢;rw[ei]at hb;exact hb
 by_cases hj':j=i
 ·subst hj';rw[if_pos rfl];exact hm hb'
 ·rw[if_neg hj'];exact a6 j hj hb'
theorem Inv.put(h:Inv n v){n':Nat}(hn:n≤n')(hi:i<v.M)(hm:Mok v.P v.M v.G m')(b1:m'.inn=(v.mach i).inn)(b2:m'.sn=(v.mach i).sn)(b3:m'.tk=(v.mach i).tk)(b4:(v.mach i).inn=true→(v.mach i).st=2∨m'.st=(v.mach i).st)
 (eR:∀ g:Int,0≤g→fR g m'=fR g (v.mach i))(eG:∀ g:Int,0≤g→fG g m'=fG g (v.mach i))(eD:∀ g:Int,0≤g→fD g m'=fD g (v.mach i))(eK:∀ g:Int,fK 29 g m'=fK 29 g (v.mach i)∧fK 30 g m'=fK 30 g (v.mach i))(eP:∀ p:Int,0≤p→fP p m'=fP p (v.mach i))(eS:fS m'=fS (v.mach i))(hb:memb v i→m'.nx = -1∧m'.idl=true):Inv n' (v.putM i m'):=by
 have hl:i<v.mm.length:=by rw[h.ln.1];exact hi
 have e:(v.putM i m').mm=v.mm.set i m':=rfl
 refine⟨h.cf,⟨by rw[e,List.length_set];exact h.ln.1,h.ln.2⟩,h.nt,mk_put h e hi rfl rfl rfl hm,lko_put h hn e hi rfl rfl (fun _ _=>rfl) b1 b2 b3 b4,⟨h.rg.qu,h.rg.rl,h.rg.rs,h.rg.sl,h.rg.sw,h.rg.wn⟩,fun g g0 g1 => ?_,id_put h e hi rfl rfl rfl hb,fun p p0 p1 => ?_,?_,h.nb,⟨by have:=h.cn.1;exact Nat.le_trans this hn,Nat.le_trans h.cn.2.1 hn,fun t ht=>by have:=h.cn.2.2.1 t ht;exact⟨this.1,by omega⟩,Nat.le_trans h.cn.2.2.2 hn⟩⟩
 ·refine(h.go g g0 g1).of rfl ?_ (sm_same e hl (eG g g0)) (sm_same e hl (eD g g0)) rfl rfl (sm_same e hl (eK g).1) (sm_same e hl (eK g).2)
  show v.qu.count g+_+(v.putM i m').sm (fR g)=_
  rw[sm_same e hl (eR g g0)];rfl
 ·rw[sm_same e hl (eP p p0)];exact h.pr p p0 p1
 ·rw[sm_same e hl eS];exact h.sp
end
section
variable {n n':Nat}{v v':V}{i:Nat}{m':Mh}
theorem lock_le(m:Mh)(P:Nat)(hP:1≤P):m.lock P≤P+1:=by
 have h1:∀ r:Int,Mh.lkOf r P≤P:=fun r=>by unfold Mh.lkOf;split <;> omega
 unfold Mh.lock
 split
 ·omega
 split
 ·have:=h1 m.p;omega
 split
 ·have:=h1 (Mh.lkAround m.p m.i P);omega
 split
 ·have:=h1 m.i;omega
 split <;> omega
theorem w64_of{x:Int}(h:0≤x∧x<18446744073709551616):w64 x=x:=by unfold w64;omega
theorem getD_set{l:List Int}{k j:Nat}{x:Int}:(l.set k x).getD j 0=if j=k∧k<l.length then x else l.getD j 0:=by
 by_cases h:j=k
 ·subst h
  by_cases h2:j<l.length
  ·simp[h2]
  ·simp[h2]
 ·simp[h,List.getElem?_set_ne (Ne.symm h)]
theorem lko_begin(h:Inv n v)(hn:n+1≤n')(e:v'.mm=v.mm.set i m')(hi:i<v.M)(eM:v'.M=v.M)(eP:v'.P=v.P)(k:Nat)(hk:k<v.P+2)(ew:∀ j,j<2*(v.P+2)→v'.ms.getD j 0=if j=2*k then v.ms.getD (2*k) 0+1 else v.ms.getD j 0)
 (b0:(v.mach i).inn=false)(b2:m'.sn=2*(k:Int))(b1:m'.inn=true)(b3:m'.tk=v.ms.getD (2*k) 0)(b4:m'.st=1):∀ j,j<v'.P+2→Lko n' v' j:=by
 intro j hj
 rw[eP]at hj
 have hl:i<v.mm.length:=by rw[h.ln.1];exact hi
 obtain⟨a1,a2,a3,a4⟩:=h.lk j hj
 have e1:v'.ms.getD (2*j+1) 0=v.ms.getD (2*j+1) 0:=by rw[ew _ (by omega),if_neg (by omega)]
 have ms:=mach_set e hl
 by_cases hjk:j=k
 ·subst hjk
  have e0:v'.ms.getD (2*j) 0=v.ms.getD (2*j) 0+1:=by rw[ew _ (by omega),if_pos rfl]
  refine⟨by rw[e0,e1];omega,fun a ha h1 h2 => ?_,fun a b ha hb hne h1 h2 h3 h4 => ?_,fun t h1 h2 => ?_⟩
  ·rw[eM]at ha
   rw[ms a]at h1 h2 ⊢
   rw[e0,e1]
   by_cases hai:a=i
   ·rw[if_pos hai]
    exact⟨by rw[b3];exact a1.2.1,by rw[b3];omega, .inl b4⟩
   ·rw[if_neg hai]at h1 h2 ⊢
    have:=a2 a ha h1 h2
    exact⟨this.1,by omega,this.2.2⟩
  ·rw[eM]at ha hb
   rw[ms a]at h1 h2 ⊢
   rw[ms b]at h3 h4 ⊢
   by_cases hai:a=i
   ·have hbi:b≠i:=fun e=>hne (hai.trans e.symm)
    rw[if_neg hbi]at h3 h4 ⊢
    rw[if_pos hai,b3]
    have:=(a2 b hb h3 h4).2.1
    omega
   ·rw[if_neg hai]at h1 h2 ⊢
    by_cases hbi:b=i
    ·rw[if_pos hbi,b3]
     have:=(a2 a ha h1 h2).2.1
     omega
    ·rw[if_neg hbi]at h3 h4 ⊢
     exact a3 a b ha hb hne h1 h2 h3 h4
  ·rw[e1]at h1
   rw[e0]at h2
   by_cases ht:t=v.ms.getD (2*j) 0
   ·refine⟨i,by rw[eM];exact hi,?_⟩
    rw[ms i,if_pos rfl]
    refine⟨?_,b2,b3.trans ht.symm⟩
    exact b1
   ·obtain⟨a,ha,c1,c2,c3⟩:=a4 t h1 (by omega)
    have hai:a≠i:=fun e=>by subst e;rw[b0]at c1;cases c1
    refine⟨a,by rw[eM];exact ha,?_⟩
    rw[ms a,if_neg hai]
    exact⟨c1,c2,c3⟩
 ·have e0:v'.ms.getD (2*j) 0=v.ms.getD (2*j) 0:=by rw[ew _ (by omega),if_neg (by omega)]
  refine⟨by rw[e0,e1];omega,fun a ha h1 h2 => ?_,fun a b ha hb hne h1 h2 h3 h4 => ?_,fun t h1 h2 => ?_⟩
  ·rw[eM]at ha
   rw[ms a]at h1 h2 ⊢
   rw[e0,e1]
   by_cases hai:a=i
   ·rw[if_pos hai,b2]at h2;omega
   ·rw[if_neg hai]at h1 h2 ⊢
    exact a2 a ha h1 h2
  ·rw[eM]at ha hb
   rw[ms a]at h1 h2 ⊢
   rw[ms b]at h3 h4 ⊢
   by_cases hai:a=i
   ·rw[if_pos hai,b2]at h2;omega
   ·by_cases hbi:b=i
    ·rw[if_pos hbi,b2]at h4;omega
    ·rw[if_neg hai]at h1 h2 ⊢
     rw[if_neg hbi]at h3 h4 ⊢
     exact a3 a b ha hb hne h1 h2 h3 h4
  ·rw[e1]at h1
   rw[e0]at h2
   obtain⟨a,ha,c1,c2,c3⟩:=a4 t h1 h2
   have hai:a≠i:=fun e=>by subst e;rw[b0]at c1;cases c1
   refine⟨a,by rw[eM];exact ha,?_⟩
   rw[ms a,if_neg hai]
   exact⟨c1,c2,c3⟩
theorem lko_free(h:Inv n v)(hn:n≤n')(e:v'.mm=v.mm.set i m')(hi:i<v.M)(eM:v'.M=v.M)(eP:v'.P=v.P)(k:Nat)(hk:k<v.P+2)(ew:∀ j,j<2*(v.P+2)→v'.ms.getD j 0=if j=2*k+1 then v.ms.getD (2*k+1) 0+1 else v.ms.getD j 0)
 (b0:(v.mach i).inn=true)(b1:(v.mach i).sn=2*(k:Int))(b2:(v.mach i).tk=v.ms.getD (2*k+1) 0)(b3:m'.inn=false):∀ j,j<v'.P+2→Lko n' v' j:=by
 intro j hj
 rw[eP]at hj
 have hl:i<v.mm.length:=by rw[h.ln.1];exact hi
 obtain⟨a1,a2,a3,a4⟩:=h.lk j hj
 have e0:v'.ms.getD (2*j) 0=v.ms.getD (2*j) 0:=by rw[ew _ (by omega),if_neg (by omega)]
 have ms:=mach_set e hl
 have nd:∀ a b,a<v.M→b<v.M→a≠b→(v'.mach a).inn=true→(v'.mach a).sn=2*(j:Int)→(v'.mach b).inn=true→(v'.mach b).sn=2*(j:Int)→(v'.mach a).tk≠(v'.mach b).tk:=by
  intro a b ha hb hne h1 h2 h3 h4
  rw[ms a]at h1 h2 ⊢
  rw[ms b]at h3 h4 ⊢
  by_cases hai:a=i
  ·rw[if_pos hai,b3]at h1;cases h1
  ·by_cases hbi:b=i
   ·rw[if_pos hbi,b3]at h3;cases h3
   ·rw[if_neg hai]at h1 h2 ⊢
    rw[if_neg hbi]at h3 h4 ⊢
    exact a3 a b ha hb hne h1 h2 h3 h4
 by_cases hjk:j=k
 ·subst hjk
  have e1:v'.ms.getD (2*j+1) 0=v.ms.getD (2*j+1) 0+1:=by rw[ew _ (by omega),if_pos rfl]
  have hti:=a2 i hi b0 b1
  refine⟨by rw[e0,e1];omega,fun a ha h1 h2 => ?_,fun a b ha hb=>nd a b (by rwa[eM]at ha) (by rwa[eM]at hb),fun t h1 h2 => ?_⟩
  ·rw[eM]at ha
   rw[ms a]at h1 h2 ⊢
   rw[e0,e1]
   by_cases hai:a=i
   ·rw[if_pos hai,b3]at h1;cases h1
   ·rw[if_neg hai]at h1 h2 ⊢
    have c:=a2 a ha h1 h2
    have d:=a3 a i ha hi hai h1 h2 b0 b1
    rw[b2]at d
    refine⟨by omega,c.2.1,?_⟩
    rcases c.2.2 with c|c
    ·exact .inl c
    ·exact absurd c d
  ·rw[e1]at h1
   rw[e0]at h2
   obtain⟨a,ha,c1,c2,c3⟩:=a4 t (by omega) h2
   have hai:a≠i:=fun e=>by subst e;rw[b2]at c3;omega
   refine⟨a,by rw[eM];exact ha,?_⟩
   rw[ms a,if_neg hai]
   exact⟨c1,c2,c3⟩
 ·have e1:v'.ms.getD (2*j+1) 0=v.ms.getD (2*j+1) 0:=by rw[ew _ (by omega),if_neg (by omega)]
  refine⟨by rw[e0,e1];omega,fun a ha h1 h2 => ?_,fun a b ha hb=>nd a b (by rwa[eM]at ha) (by rwa[eM]at hb),fun t h1 h2 => ?_⟩
  ·rw[eM]at ha
   rw[ms a]at h1 h2 ⊢
   rw[e0,e1]
   by_cases hai:a=i
   ·rw[if_pos hai,b3]at h1;cases h1
   ·rw[if_neg hai]at h1 h2 ⊢
    exact a2 a ha h1 h2
  ·rw[e1]at h1
   rw[e0]at h2
   obtain⟨a,ha,c1,c2,c3⟩:=a4 t h1 h2
   have hai:a≠i:=fun e=>by subst e;rw[b1]at c2;omega
   refine⟨a,by rw[eM];exact ha,?_⟩
   rw[ms a,if_neg hai]
   exact⟨c1,c2,c3⟩
end
section
variable {n n':Nat}{v v':V}{i:Nat}{m':Mh}
theorem onM2(h:i<v.mm.length)(f g:Mh→Mh):(v.onM i f).onM i g=v.onM i fun m=>g (f m):=by
 unfold V.onM V.putM V.mach
 simp[h]
theorem Inv.mv(h:Inv n v)(hn:n≤n')(hi:i<v.M)(hm:Mok v.P v.M v.G m')(e:v'.mm=v.mm.set i m')(ee:v'.P=v.P∧v'.M=v.M∧v'.G=v.G∧v'.ms=v.ms∧v'.ns=v.ns∧v'.mc=v.mc∧v'.tu=v.tu∧v'.lg=v.lg∧v'.id=v.id)(er:v'.rs.length=v.rs.length)(ea:v'.sr.ad≤n')
 (b1:m'.inn=(v.mach i).inn)(b2:m'.sn=(v.mach i).sn)(b3:m'.tk=(v.mach i).tk)(b4:(v.mach i).inn=true→(v.mach i).st=2∨m'.st=(v.mach i).st)
 (eP:∀ p:Int,0≤p→fP p m'=fP p (v.mach i))(eS:fS m'=fS (v.mach i))(hb:memb v i→m'.nx = -1∧m'.idl=true)(rg:Rgo v')(go:∀ g:Int,0≤g→g<v.G→Gok v' g):Inv n' v':=by
 have hl:i<v.mm.length:=by rw[h.ln.1];exact hi
 obtain⟨e1,e2,e3,e4,e5,e6,e7,e8,e9⟩:=ee
 have q1:v'.spn=v.spn:=by unfold V.spn;rw[e1]
 have q2:v'.nts=v.nts:=by unfold V.nts;rw[q1]
 have q3:v'.wds=v.wds:=by unfold V.wds V.sts;rw[q2,e2,e3]
 refine⟨by rw[e1,e2,e3];exact h.cf,⟨by rw[e,List.length_set,e2];exact h.ln.1,by rw[er,e1];exact h.ln.2.1,by rw[e7,e1];exact h.ln.2.2.1,by rw[e4,q3];exact h.ln.2.2.2.1,by rw[e5,q3];exact h.ln.2.2.2.2.1,by rw[e9,e1];exact h.ln.2.2.2.2.2⟩,
  by rw[q1,e4,e5];exact h.nt,mk_put h e hi e2 e1 e3 hm,lko_put h hn e hi e2 e1 (fun _ _=>by rw[e4]) b1 b2 b3 b4,rg,by rw[e3];exact go,id_put h e hi e2 e1 e9 hb,fun p p0 p1 => ?_,?_,by rw[e2,q2,e5];exact h.nb,⟨by rw[e6];exact Nat.le_trans h.cn.1 hn,by rw[e8];exact Nat.le_trans h.cn.2.1 hn,fun t ht=>by rw[e7]at ht;have:=h.cn.2.2.1 t ht;exact⟨this.1,by omega⟩,ea⟩⟩
 ·rw[e1]at p1;rw[sm_same e hl (eP p p0),e9];exact h.pr p p0 p1
 ·rw[sm_same e hl eS,e4,e9,q1];exact h.sp
theorem stat_same(e1:v'.P=v.P)(e2:v'.M=v.M)(e3:v'.G=v.G)(e5:v'.ns=v.ns)(g:Int):v'.stat g=v.stat g:=by
 unfold V.stat V.sts V.nts V.spn
 rw[e1,e2,e3,e5]
theorem Rgo.same(h:Rgo v)(e1:v'.P=v.P)(e3:v'.G=v.G)(e5:v'.rs=v.rs)(e6:v'.sr=v.sr)(hq:∀ x ∈ v'.qu,0≤x∧x<v.G):Rgo v':=by
 obtain⟨a1,a2,a3,a4,a5,a6⟩:=h
 have er:∀ p,v'.ring p=v.ring p:=fun p=>by unfold V.ring;rw[e5]
 exact⟨by rw[e3];exact hq,by simp only[e1,e3,er];exact a2,by simp only[e1,er];exact a3,by rw[e6,e3];exact a4,by rw[e6,e3];exact a5,by rw[e6];exact a6⟩
theorem ring_put(p j:Nat)(r:RV)(h:p<v.rs.length):(v.putR p r).ring j=if j=p then r else v.ring j:=by
 unfold V.ring V.putR
 by_cases hj:j=p
 ·subst hj;simp[h]
 ·simp[hj,List.getElem?_set_ne (Ne.symm hj)]
theorem Rgo.ring(h:Rgo v){p:Nat}{r:RV}(hp:p<v.rs.length)(e1:v'.P=v.P)(e3:v'.G=v.G)(e5:v'.rs=v.rs.set p r)(e6:v'.sr=v.sr)(eq:v'.qu=v.qu)(hr:∀ x ∈ r.list,0≤x∧x<v.G)(hs:0≤r.st∧r.xs.length≤256):Rgo v':=by
 obtain⟨a1,a2,a3,a4,a5,a6⟩:=h
 have er:∀ j,v'.ring j=if j=p then r else v.ring j:=fun j=>by
  rw[←ring_put p j r hp];unfold V.ring V.putR;rw[e5]
 refine⟨by rw[e3,eq];exact a1,fun j hj => ?_,fun j hj => ?_,by rw[e6,e3];exact a4,by rw[e6,e3];exact a5,by rw[e6];exact a6⟩
 ·rw[er,e3]
  by_cases hjp:j=p
  ·rw[if_pos hjp];exact hr
  ·rw[if_neg hjp];exact a2 j (by rwa[e1]at hj)
 ·rw[er]
  by_cases hjp:j=p
  ·rw[if_pos hjp];exact hs
  ·rw[if_neg hjp];exact a3 j (by rwa[e1]at hj)
structure At(n:Nat)(v:V)(i:Nat)(k:Int):Prop where
 h:Inv n v
 hi:i<v.M
 inn:(v.mach i).inn=true
 st:(v.mach i).st=2
 pl:(v.mach i).pl=k
namespace At
variable {k:Int}
theorem hl(a:At n v i k):i<v.mm.length:=by rw[a.h.ln.1];exact a.hi
theorem mo(a:At n v i k):Mok v.P v.M v.G (v.mach i):=a.h.mo i a.hi
theorem nm(a:At n v i k)(hk:k≠14∧k≠15∧k≠16):¬memb v i:=fun hb=>by
 have:=(a.h.id.mb i a.hi hb).2
 have ha:(v.mach i).aft=false:=by simp[Mh.aft,a.st]
 simp[Mh.idl,ha,a.pl,hk]at this
end At
def fin (m:Mh)(b:Bool):Mh := { m with st:=if b then 2 else 3,tm:=m.tm+1 }
theorem hol_none{m:Mh}(h1:m.got = -1)(h2:m.rest = []):hol m = []:=by simp[hol,h1,h2]
theorem go_R(h:Inv n v)(hi:i<v.M)(e:v'.mm=v.mm.set i m')(e1:v'.P=v.P)(e2:v'.M=v.M)(e3:v'.G=v.G)(e5:v'.ns=v.ns)(e6:v'.sr=v.sr)(hR:∀ g:Int,0≤g→v'.qu.count g+(v'.rs.map fun r=>r.list.count g).sum+(hol m').count g=v.qu.count g+(v.rs.map fun r=>r.list.count g).sum+(hol (v.mach i)).count g)
 (hG:∀ g:Int,fG g m'=fG g (v.mach i))(hD:∀ g:Int,0≤g→fD g m'=fD g (v.mach i))(hK:∀ g:Int,fK 29 g m'=fK 29 g (v.mach i)∧fK 30 g m'=fK 30 g (v.mach i)):∀ g:Int,0≤g→g<v.G→Gok v' g:=by
 intro g g0 g1
 have hl:i<v.mm.length:=by rw[h.ln.1];exact hi
 refine(h.go g g0 g1).of (stat_same e1 e2 e3 e5 g) ?_ (sm_same e hl (hG g)) (sm_same e hl (hD g g0)) (by unfold V.cL;rw[e6]) (by unfold V.cW;rw[e6]) (sm_same e hl (hK g).1) (sm_same e hl (hK g).2)
 have s:=sm_set e hl (fR g)
 have r:=hR g g0
 unfold V.cR
 unfold fR at s ⊢
 omega
theorem inv_R{k:Int}(a:At n v i k)(hn:n≤n')(hk:k≠14∧k≠15∧k≠16∧k≠23∧k≠25∧k≠26∧k≠29∧k≠30)(hm:Mok v.P v.M v.G m')(e:v'.mm=v.mm.set i m')(ee:v'.P=v.P∧v'.M=v.M∧v'.G=v.G∧v'.ms=v.ms∧v'.ns=v.ns∧v'.mc=v.mc∧v'.tu=v.tu∧v'.lg=v.lg∧v'.id=v.id)(er:v'.rs.length=v.rs.length)(es:v'.sr=v.sr)
 (b:m'.pl=(v.mach i).pl∧m'.inn=(v.mach i).inn∧m'.sn=(v.mach i).sn∧m'.tk=(v.mach i).tk∧m'.p=(v.mach i).p∧m'.nx=(v.mach i).nx∧m'.g=(v.mach i).g∧m'.spin=(v.mach i).spin)(rg:Rgo v')
 (hR:∀ g:Int,0≤g→v'.qu.count g+(v'.rs.map fun r=>r.list.count g).sum+(hol m').count g=v.qu.count g+(v.rs.map fun r=>r.list.count g).sum+(hol (v.mach i)).count g):Inv n' v':=by
 obtain⟨b1,b2,b3,b4,b5,b6,b7,b8⟩:=b
 have hp:=a.pl
 have hp':m'.pl=k:=b1.trans hp
 refine a.h.mv hn a.hi hm e ee er (by rw[es];exact Nat.le_trans a.h.cn.2.2.2 hn) b2 b3 b4 (fun _ => .inl a.st) (fun p _=>by unfold fP;rw[b5,b6]) (by simp[fS,Mh.claim,hp,hp',hk,b6,b8]) (fun hb=>absurd hb (a.nm ⟨hk.1,hk.2.1,hk.2.2.1⟩)) rg
  (go_R a.h a.hi e ee.1 ee.2.1 ee.2.2.1 ee.2.2.2.2.1 es hR (fun g=>by unfold fG;rw[b7]) (fun g _=>by simp[fD,Mh.dlv,hp,hp',hk]) (fun g=>by simp[fK,hp,hp',hk]))
theorem At.af{k:Int}(a:At n v i k):(v.mach i).aft=false:=by simp[Mh.aft,a.st]
theorem inv_2(a:At n v i 2)(hn:n≤n'):Inv n' ((v.with' i (v.mach i).tm).1.onM i fun m=>fin m (v.with' i (v.mach i).tm).2):=by
 have hp:=a.pl
 have lc:=(loc_2 hp).1 a.mo.l
 rw[show v.with' i (v.mach i).tm=(v.one.2.onM i (·.get v.one.1),false) by simp[V.with',hp]]
 simp only[a.af,Bool.false_and,Bool.false_eq_true,if_false]at lc
 have ho:hol (v.mach i) = []:=hol_none lc.2.2.1 lc.2.2.2.1
 rcases hq:v.qu with _|⟨x,l⟩
 ·rw[show v.one=((0,false),v) by simp[V.one,hq],onM2 a.hl]
  refine inv_R a hn (by decide) (do_2 a.mo a.inn a.st hp (0,false) (by simp)) rfl ⟨rfl,rfl,rfl,rfl,rfl,rfl,rfl,rfl,rfl⟩ rfl rfl ⟨rfl,rfl,rfl,rfl,rfl,rfl,rfl,rfl⟩ (a.h.rg.same rfl rfl rfl rfl a.h.rg.qu) (fun g _=>rfl)
 ·rw[show v.one=((x,true),v.putQ l) by simp[V.one,hq],onM2 (v:=v.putQ l) a.hl]
  have hx:0≤x∧x<v.G:=a.h.rg.qu x (by simp[hq])
  have ho':hol (fin ((v.mach i).get (x,true)) false) = [x]:=by simp[hol,fin,Mh.get,Mh.dlv,hp,lc];omega
  refine inv_R a hn (by decide) (do_2 a.mo a.inn a.st hp (x,true) (fun _=>hx)) rfl ⟨rfl,rfl,rfl,rfl,rfl,rfl,rfl,rfl,rfl⟩ rfl rfl ⟨rfl,rfl,rfl,rfl,rfl,rfl,rfl,rfl⟩
   (a.h.rg.same rfl rfl rfl rfl (fun y hy=>a.h.rg.qu y (by rw[hq];exact List.mem_cons_of_mem _ hy))) (fun g _ => ?_)
  show l.count g+(v.rs.map fun r=>r.list.count g).sum+(hol (fin ((v.mach i).get (x,true)) false)).count g=_
  rw[ho',ho,hq,show x :: l = [x] ++ l from rfl,List.count_append]
  simp;omega
theorem count_get(r:RV)(g:Int):r.get.2.list.count g+(if r.get.1.2 then [r.get.1.1] else []).count g=r.list.count g:=by
 obtain⟨xs,nx,hs,st⟩:=r
 rcases hs with _|_
 ·rcases xs with _|⟨x,l⟩
  ·simp[RV.get,RV.list]
  ·simp[RV.get,RV.list,List.count_cons]
 ·rcases xs with _|⟨x,l⟩
  ·simp[RV.get,RV.list]
  ·by_cases h:st<4
   ·simp[RV.get,RV.list,h,List.count_cons,List.count_append];omega
   ·simp[RV.get,RV.list,h,List.count_cons,List.count_append]
theorem mem_get(r:RV)(x:Int)(h:x ∈ r.get.2.list∨(r.get.1.2=true∧x=r.get.1.1)):x ∈ r.list:=by
 have c:=count_get r x
 have:0<r.list.count x:=by
  rw[←c]
  rcases h with h|⟨h1,h2⟩
  ·have:=List.count_pos_iff.2 h;omega
  ·rw[if_pos h1,h2];simp
 exact List.count_pos_iff.1 this
theorem get_st(r:RV)(h:0≤r.st∧r.xs.length≤256):0≤r.get.2.st∧r.get.2.xs.length≤256:=by
 obtain⟨xs,nx,hs,st⟩:=r
 rcases hs with _|_
 ·rcases xs with _|⟨x,l⟩
  ·simpa[RV.get] using h
  ·simp[RV.get]at h ⊢;omega
 ·rcases xs with _|⟨x,l⟩
  ·simp[RV.get]
  ·by_cases h':st<4
   ·simp[RV.get,h']at h ⊢;omega
   ·simp[RV.get,h']at h ⊢;omega
theorem inv_3(a:At n v i 3)(hn:n≤n'):Inv n' ((v.with' i (v.mach i).tm).1.onM i fun m=>fin m (v.with' i (v.mach i).tm).2):=by
 have hp:=a.pl
 have lc:=(loc_3 hp).1 a.mo.l
 simp only[a.af,Bool.false_and,Bool.false_eq_true,if_false]at lc
 have ho:hol (v.mach i) = []:=hol_none lc.2.2.1 lc.2.2.2.1
 have hpl:(v.mach i).p.toNat<v.rs.length:=by rw[a.h.ln.2.1];omega
 have hpP:(v.mach i).p.toNat<v.P:=by omega
 generalize hpn:(v.mach i).p.toNat=p at hpl hpP
 rw[show v.with' i (v.mach i).tm=((v.putR p (v.ring p).get.2).onM i (·.get (v.ring p).get.1),false) by simp[V.with',hp,hpn],onM2 (v:=v.putR p (v.ring p).get.2) a.hl]
 have hx:(v.ring p).get.1.2=true→0≤(v.ring p).get.1.1∧(v.ring p).get.1.1<v.G:=fun hb=>a.h.rg.rl p hpP _ (mem_get _ _ (.inr ⟨hb,rfl⟩))
 have ho':hol (fin ((v.mach i).get (v.ring p).get.1) false)=if (v.ring p).get.1.2 then [(v.ring p).get.1.1] else []:=by
  generalize (v.ring p).get.1=q at hx ⊢
  obtain⟨x,_|_⟩:=q
  ·simp[hol,fin,Mh.get,lc]
  ·have:=hx rfl
   simp[hol,fin,Mh.get,Mh.dlv,hp,lc];omega
 have hb:∀ r:Int × Bool,((v.mach i).get r).inn=(v.mach i).inn∧((v.mach i).get r).sn=(v.mach i).sn∧((v.mach i).get r).tk=(v.mach i).tk∧((v.mach i).get r).p=(v.mach i).p∧((v.mach i).get r).nx=(v.mach i).nx∧((v.mach i).get r).g=(v.mach i).g∧((v.mach i).get r).spin=(v.mach i).spin∧((v.mach i).get r).pl=(v.mach i).pl∧((v.mach i).get r).tm=(v.mach i).tm:=fun r=>by
  obtain⟨x,_|_⟩:=r <;> exact⟨rfl,rfl,rfl,rfl,rfl,rfl,rfl,rfl,rfl⟩
 obtain⟨c1,c2,c3,c4,c5,c6,c7,c8,c9⟩:=hb (v.ring p).get.1
 refine inv_R a hn (m':=fin ((v.mach i).get (v.ring p).get.1) false) (by decide) (by unfold fin;rw[c9];exact do_3 a.mo a.inn a.st hp _ hx) rfl ⟨rfl,rfl,rfl,rfl,rfl,rfl,rfl,rfl,rfl⟩ (List.length_set) rfl ⟨c8,c1,c2,c3,c4,c5,c6,c7⟩
  (a.h.rg.ring hpl rfl rfl rfl rfl rfl (fun x hx=>a.h.rg.rl p hpP x (mem_get _ _ (.inl hx))) (get_st _ (a.h.rg.rs p hpP))) (fun g _ => ?_)
 have s:=rs_set (v:=v) (v':=(v.putR p (v.ring p).get.2)) (v.ring p).get.2 p rfl hpl (fun r=>r.list.count g)
 have q:=count_get (v.ring p) g
 rw[ho',ho]
 show v.qu.count g+((v.putR p (v.ring p).get.2).rs.map fun r=>r.list.count g).sum+_=_
 simp only[List.count_nil]
 omega
theorem getAll_same(m:Mh)(l:List Int):(m.getAll l).pl=m.pl∧(m.getAll l).inn=m.inn∧(m.getAll l).sn=m.sn∧(m.getAll l).tk=m.tk∧(m.getAll l).p=m.p∧(m.getAll l).nx=m.nx∧(m.getAll l).g=m.g∧(m.getAll l).spin=m.spin∧(m.getAll l).tm=m.tm:=by
 rcases l with _|⟨x,l⟩ <;> exact⟨rfl,rfl,rfl,rfl,rfl,rfl,rfl,rfl,rfl⟩
theorem hol_getAll{m:Mh}{l:List Int}(h1:m.got = -1)(h2:m.rest = [])(hd:m.dlv=false)(hl:∀ x ∈ l,0≤x)(b:Bool):hol (fin (m.getAll l) b)=l:=by
 rcases l with _|⟨x,l⟩
 ·simp[hol,fin,Mh.getAll,h1,h2]
 ·have:=hl x (by simp)
  have hd':(fin (m.getAll (x :: l)) b).dlv=false:=hd
  have:¬((fin (m.getAll (x :: l)) b).got = -1∨(fin (m.getAll (x :: l)) b).dlv=true):=by
   rw[hd'];simp[fin,Mh.getAll];omega
  simp only[hol,if_neg this]
  rfl
theorem mem_takeQ{x:Int}(h:x ∈ v.qu.take v.share∨x ∈ v.qu.drop v.share):x ∈ v.qu:=by
 rcases h with h|h
 ·exact List.mem_of_mem_take h
 ·exact List.mem_of_mem_drop h
theorem inv_4(a:At n v i 4)(hn:n≤n'):Inv n' ((v.with' i (v.mach i).tm).1.onM i fun m=>fin m (v.with' i (v.mach i).tm).2):=by
 have hp:=a.pl
 have lc:=(loc_4 hp).1 a.mo.l
 simp only[a.af,Bool.false_and,Bool.false_eq_true,if_false]at lc
 have hr:(v.mach i).rest = []:=by simpa using lc.2.2.2.1
 have ho:hol (v.mach i) = []:=hol_none lc.2.2.1 hr
 rw[show v.with' i (v.mach i).tm=((v.putQ (v.qu.drop v.share)).onM i (·.getAll (v.qu.take v.share)),false) by simp[V.with',hp,V.takeQ],onM2 (v:=v.putQ (v.qu.drop v.share)) a.hl]
 have hx:∀ x ∈ v.qu.take v.share,0≤x∧x<v.G:=fun x hx=>a.h.rg.qu x (mem_takeQ (.inl hx))
 have ho':hol (fin ((v.mach i).getAll (v.qu.take v.share)) false)=v.qu.take v.share:=hol_getAll lc.2.2.1 hr (by simp[Mh.dlv,hp]) (fun x h=>(hx x h).1) _
 obtain⟨c8,c1,c2,c3,c4,c5,c6,c7,c9⟩:=getAll_same (v.mach i) (v.qu.take v.share)
 refine inv_R a hn (m':=fin ((v.mach i).getAll (v.qu.take v.share)) false) (by decide) (by unfold fin;rw[c9];exact do_4 a.mo a.inn a.st hp _ hx) rfl ⟨rfl,rfl,rfl,rfl,rfl,rfl,rfl,rfl,rfl⟩ rfl rfl ⟨c8,c1,c2,c3,c4,c5,c6,c7⟩
  (a.h.rg.same rfl rfl rfl rfl (fun y hy=>a.h.rg.qu y (mem_takeQ (.inr hy)))) (fun g _ => ?_)
 rw[ho',ho]
 show (v.qu.drop v.share).count g+(v.rs.map fun r=>r.list.count g).sum+_=_
 have:v.qu.count g=(v.qu.take v.share).count g+(v.qu.drop v.share).count g:=by rw[←List.count_append,List.take_append_drop]
 simp only[List.count_nil]
 omega
theorem count_steal(r:RV)(g:Int):r.steal.2.list.count g+r.steal.1.count g=r.list.count g:=by
 obtain⟨xs,nx,hs,st⟩:=r
 by_cases h:0<xs.length
 ·have:xs.count g=(xs.take ((xs.length+1) / 2)).count g+(xs.drop ((xs.length+1) / 2)).count g:=by rw[←List.count_append,List.take_append_drop]
  simp only[RV.steal,RV.list,h,if_true,List.count_append]
  omega
 ·obtain rfl:xs = []:=by cases xs with
   | nil=>rfl
   | cons x l=>simp at h
  rcases hs with _|_ <;> simp[RV.steal,RV.list]
theorem mem_steal(r:RV)(x:Int)(h:x ∈ r.steal.2.list∨x ∈ r.steal.1):x ∈ r.list:=by
 have c:=count_steal r x
 have:0<r.list.count x:=by
  rcases h with h|h
  ·have:=List.count_pos_iff.2 h;omega
  ·have:=List.count_pos_iff.2 h;omega
 exact List.count_pos_iff.1 this
theorem steal_st(r:RV)(h:0≤r.st∧r.xs.length≤256):0≤r.steal.2.st∧r.steal.2.xs.length≤256:=by
 obtain⟨xs,nx,hs,st⟩:=r
 by_cases h':0<xs.length
 ·simp[RV.steal,h']at h ⊢;omega
 ·rcases hs with _|_
  ·simpa[RV.steal,h'] using h
  ·simp[RV.steal,h']
theorem inv_6(a:At n v i 6)(hn:n≤n'):Inv n' ((v.with' i (v.mach i).tm).1.onM i fun m=>fin m (v.with' i (v.mach i).tm).2):=by
 have hp:=a.pl
 have lc:=(loc_6 hp).1 a.mo.l
 simp only[a.af,Bool.false_and,Bool.false_eq_true,if_false]at lc
 have hr:(v.mach i).rest = []:=by simpa using lc.2.2.2.1
 have ho:hol (v.mach i) = []:=hol_none lc.2.2.1 hr
 have hm:0≤((v.mach i).p+(v.mach i).i) % (v.P:Int)∧((v.mach i).p+(v.mach i).i) % (v.P:Int)<v.P:=⟨Int.emod_nonneg _ (by omega),Int.emod_lt_of_pos _ (by omega)⟩
 have hpl:(((v.mach i).p+(v.mach i).i) % (v.P:Int)).toNat<v.rs.length:=by rw[a.h.ln.2.1];omega
 have hpP:(((v.mach i).p+(v.mach i).i) % (v.P:Int)).toNat<v.P:=by omega
 generalize hpn:(((v.mach i).p+(v.mach i).i) % (v.P:Int)).toNat=p at hpl hpP
 rw[show v.with' i (v.mach i).tm=((v.putR p (v.ring p).steal.2).onM i (·.getAll (v.ring p).steal.1),false) by simp[V.with',hp,hpn],onM2 (v:=v.putR p (v.ring p).steal.2) a.hl]
 have hx:∀ x ∈ (v.ring p).steal.1,0≤x∧x<v.G:=fun x hx=>a.h.rg.rl p hpP x (mem_steal _ _ (.inr hx))
 have ho':hol (fin ((v.mach i).getAll (v.ring p).steal.1) false)=(v.ring p).steal.1:=hol_getAll lc.2.2.1 hr (by simp[Mh.dlv,hp]) (fun x h=>(hx x h).1) _
 obtain⟨c8,c1,c2,c3,c4,c5,c6,c7,c9⟩:=getAll_same (v.mach i) (v.ring p).steal.1
 refine inv_R a hn (m':=fin ((v.mach i).getAll (v.ring p).steal.1) false) (by decide) (by unfold fin;rw[c9];exact do_6 a.mo a.inn a.st hp _ hx) rfl ⟨rfl,rfl,rfl,rfl,rfl,rfl,rfl,rfl,rfl⟩ (List.length_set) rfl ⟨c8,c1,c2,c3,c4,c5,c6,c7⟩
  (a.h.rg.ring hpl rfl rfl rfl rfl rfl (fun x hx=>a.h.rg.rl p hpP x (mem_steal _ _ (.inl hx))) (steal_st _ (a.h.rg.rs p hpP))) (fun g _ => ?_)
 have s:=rs_set (v:=v) (v':=(v.putR p (v.ring p).steal.2)) (v.ring p).steal.2 p rfl hpl (fun r=>r.list.count g)
 have q:=count_steal (v.ring p) g
 rw[ho',ho]
 show v.qu.count g+((v.putR p (v.ring p).steal.2).rs.map fun r=>r.list.count g).sum+_=_
 simp only[List.count_nil]
 omega
theorem count_putAll(r:RV)(l:List Int)(g:Int):(r.putAll l).2.list.count g+(r.putAll l).1.count g=r.list.count g+l.count g:=by
 have:l.count g=(l.take (256 - r.xs.length)).count g+(l.drop (256 - r.xs.length)).count g:=by rw[←List.count_append,List.take_append_drop]
 obtain⟨xs,nx,hs,st⟩:=r
 rcases hs with _|_ <;> simp[RV.putAll,RV.list,List.count_append]at this ⊢ <;> omega
theorem mem_putAll(r:RV)(l:List Int)(x:Int)(h:x ∈ (r.putAll l).2.list∨x ∈ (r.putAll l).1):x ∈ r.list∨x ∈ l:=by
 have c:=count_putAll r l x
 rcases Nat.eq_zero_or_pos (r.list.count x) with h0|h0
 ·refine .inr (List.count_pos_iff.1 ?_)
  rcases h with h|h
  ·have:=List.count_pos_iff.2 h;omega
  ·have:=List.count_pos_iff.2 h;omega
 ·exact .inl (List.count_pos_iff.1 h0)
theorem count_ready(r:RV)(x g:Int):(r.ready x).2.list.count g+(r.ready x).1.count g=r.list.count g + [x].count g:=by
 obtain⟨xs,nx,hs,st⟩:=r
 rcases hs with _|_
 ·simp[RV.ready,RV.list]
 ·by_cases h:xs.length<256
  ·simp[RV.ready,RV.list,h,List.count_append,List.count_cons];omega
  ·have:xs.count g=(xs.take 128).count g+(xs.drop 128).count g:=by rw[←List.count_append,List.take_append_drop]
   simp only[RV.ready,RV.list,h,if_false,if_true,List.count_append]
   omega
theorem mem_ready(r:RV)(y x:Int)(h:x ∈ (r.ready y).2.list∨x ∈ (r.ready y).1):x ∈ r.list∨x=y:=by
 have c:=count_ready r y x
 rcases Nat.eq_zero_or_pos (r.list.count x) with h0|h0
 ·refine .inr ?_
  have:0 < [y].count x:=by
   rcases h with h|h
   ·have:=List.count_pos_iff.2 h;omega
   ·have:=List.count_pos_iff.2 h;omega
  simpa using List.count_pos_iff.1 this
 ·exact .inl (List.count_pos_iff.1 h0)
theorem inv_17(a:At n v i 17)(hn:n≤n'):Inv n' ((v.with' i (v.mach i).tm).1.onM i fun m=>fin m (v.with' i (v.mach i).tm).2):=by
 have hp:=a.pl
 have lc:=(loc_17 hp).1 a.mo.l
 have hd:(v.mach i).dlv=false:=by simp[Mh.dlv,hp]
 have ho:hol (v.mach i) = [(v.mach i).got] ++ (v.mach i).rest:=by
  rw[hol,if_neg (by rw[hd];simp;omega)]
 have hpl:(v.mach i).p.toNat<v.rs.length:=by rw[a.h.ln.2.1];omega
 have hpP:(v.mach i).p.toNat<v.P:=by omega
 generalize hpn:(v.mach i).p.toNat=p at hpl hpP
 generalize hr:(v.ring p).putAll (v.mach i).rest=r
 rw[show v.with' i (v.mach i).tm=((v.putR p r.2).onM i fun m => { m with rest:=r.1 },false) by simp[V.with',V.give,hp,hpn,hr],onM2 (v:=v.putR p r.2) a.hl]
 have hmem:∀ x,x ∈ r.2.list∨x ∈ r.1→0≤x∧x<v.G:=fun x hx=>by
  rw[←hr]at hx
  rcases mem_putAll _ _ _ hx with h|h
  ·exact a.h.rg.rl p hpP x h
  ·exact lc.2.2.2.1 x h
 refine inv_R a hn (m':=fin { v.mach i with rest:=r.1 } false) (by decide) (do_17 (m:=v.mach i) a.mo a.inn a.st hp _ (fun x hx=>hmem x (.inr hx))) rfl ⟨rfl,rfl,rfl,rfl,rfl,rfl,rfl,rfl,rfl⟩ (List.length_set) rfl ⟨rfl,rfl,rfl,rfl,rfl,rfl,rfl,rfl⟩
  (a.h.rg.ring hpl rfl rfl rfl rfl rfl (fun x hx=>hmem x (.inl hx)) ?_) (fun g _ => ?_)
 ·have:=a.h.rg.rs p hpP
  rw[←hr]
  simp[RV.putAll];omega
 ·have s:=rs_set (v:=v) (v':=(v.putR p r.2)) r.2 p rfl hpl (fun r=>r.list.count g)
  have q:=count_putAll (v.ring p) (v.mach i).rest g
  rw[hr]at q
  have ho':hol (fin { v.mach i with rest:=r.1 } false) = [(v.mach i).got] ++ r.1:=by
   rw[hol,if_neg (by simp[fin,Mh.dlv,hp];omega)];rfl
  rw[ho',ho]
  show v.qu.count g+((v.putR p r.2).rs.map fun r=>r.list.count g).sum+_=_
  simp only[List.count_append]
  omega
theorem inv_18(a:At n v i 18)(hn:n≤n'):Inv n' ((v.with' i (v.mach i).tm).1.onM i fun m=>fin m (v.with' i (v.mach i).tm).2):=by
 have hp:=a.pl
 have lc:=(loc_18 hp).1 a.mo.l
 rw[show v.with' i (v.mach i).tm=((v.putQ (v.qu ++ (v.mach i).rest)).onM i fun m => { m with rest := [] },false) by simp[V.with',V.give,hp],onM2 (v:=v.putQ (v.qu ++ (v.mach i).rest)) a.hl]
 refine inv_R a hn (m':=fin { v.mach i with rest := [] } false) (by decide) (do_18 (m:=v.mach i) a.mo a.inn a.st hp) rfl ⟨rfl,rfl,rfl,rfl,rfl,rfl,rfl,rfl,rfl⟩ rfl rfl ⟨rfl,rfl,rfl,rfl,rfl,rfl,rfl,rfl⟩
  (a.h.rg.same rfl rfl rfl rfl (fun y hy => ?_)) (fun g _ => ?_)
 ·rcases List.mem_append.1 hy with h|h
  ·exact a.h.rg.qu y h
  ·exact lc.2.2.2.2.1 y h
 ·show (v.qu ++ (v.mach i).rest).count g+(v.rs.map fun r=>r.list.count g).sum+_=_
  have e:hol (v.mach i)=hol (fin { v.mach i with rest := [] } false) ++ (v.mach i).rest:=by simp[hol,fin,Mh.dlv,hp]
  rw[e]
  simp only[List.count_append]
  omega
theorem inv_27(a:At n v i 27)(hn:n≤n'):Inv n' ((v.with' i (v.mach i).tm).1.onM i fun m=>fin m (v.with' i (v.mach i).tm).2):=by
 have hp:=a.pl
 have lc:=(loc_27 hp).1 a.mo.l
 simp only[a.af,Bool.false_eq_true,if_false]at lc
 rw[show v.with' i (v.mach i).tm=((v.putQ (v.qu ++ [(v.mach i).got])).onM i fun m => { m with got := -1 },false) by simp[V.with',V.give,hp],onM2 (v:=v.putQ (v.qu ++ [(v.mach i).got])) a.hl]
 have hd:(v.mach i).dlv=false:=by simp[Mh.dlv,hp]
 have ho:hol (v.mach i) = [(v.mach i).got]:=by
  rw[hol,if_neg (by rw[hd];simp;omega),lc.2.2.2.2.2.1];rfl
 refine inv_R a hn (m':=fin { v.mach i with got := -1 } false) (by decide) (do_27 (m:=v.mach i) a.mo a.inn a.st hp) rfl ⟨rfl,rfl,rfl,rfl,rfl,rfl,rfl,rfl,rfl⟩ rfl rfl ⟨rfl,rfl,rfl,rfl,rfl,rfl,rfl,rfl⟩
  (a.h.rg.same rfl rfl rfl rfl (fun y hy => ?_)) (fun g _ => ?_)
 ·rcases List.mem_append.1 hy with h|h
  ·exact a.h.rg.qu y h
  ·rw[List.mem_singleton.1 h];exact lc.2.2.2.2.1
 ·show (v.qu ++ [(v.mach i).got]).count g+(v.rs.map fun r=>r.list.count g).sum+_=_
  rw[ho,show hol (fin { v.mach i with got := -1 } false) = [] by simp[hol,fin,lc]]
  simp only[List.count_append,List.count_nil]
  omega
theorem inv_28(a:At n v i 28)(hn:n≤n'):Inv n' ((v.with' i (v.mach i).tm).1.onM i fun m=>fin m (v.with' i (v.mach i).tm).2):=by
 have hp:=a.pl
 have lc:=(loc_28 hp).1 a.mo.l
 simp only[a.af,Bool.false_eq_true,if_false]at lc
 have hrr:(v.mach i).rest = []:=by simpa using lc.2.2.2.1
 have hd:(v.mach i).dlv=false:=by simp[Mh.dlv,hp]
 have ho:hol (v.mach i) = [(v.mach i).got]:=by
  rw[hol,if_neg (by rw[hd];simp;omega),hrr];rfl
 have hpl:(v.mach i).p.toNat<v.rs.length:=by rw[a.h.ln.2.1];omega
 have hpP:(v.mach i).p.toNat<v.P:=by omega
 generalize hpn:(v.mach i).p.toNat=p at hpl hpP
 generalize hr:(v.ring p).ready (v.mach i).got=r
 rw[show v.with' i (v.mach i).tm=((v.putR p r.2).onM i fun m => { m with rest:=r.1,got := -1 },false) by simp[V.with',V.give,hp,hpn,hr],onM2 (v:=v.putR p r.2) a.hl]
 have hmem:∀ x,x ∈ r.2.list∨x ∈ r.1→0≤x∧x<v.G:=fun x hx=>by
  rw[←hr]at hx
  rcases mem_ready _ _ _ hx with h|h
  ·exact a.h.rg.rl p hpP x h
  ·rw[h];exact lc.2.2.1
 refine inv_R a hn (m':=fin { v.mach i with rest:=r.1,got := -1 } false) (by decide) (do_28 (m:=v.mach i) a.mo a.inn a.st hp _ (fun x hx=>hmem x (.inr hx))) rfl ⟨rfl,rfl,rfl,rfl,rfl,rfl,rfl,rfl,rfl⟩ (List.length_set) rfl ⟨rfl,rfl,rfl,rfl,rfl,rfl,rfl,rfl⟩
  (a.h.rg.ring hpl rfl rfl rfl rfl rfl (fun x hx=>hmem x (.inl hx)) ?_) (fun g _ => ?_)
 ·have:=a.h.rg.rs p hpP
  rw[←hr]
  unfold RV.ready
  split
  ·split
   ·simp;omega
   ·simp;omega
  ·exact this
 ·have s:=rs_set (v:=v) (v':=(v.putR p r.2)) r.2 p rfl hpl (fun r=>r.list.count g)
  have q:=count_ready (v.ring p) (v.mach i).got g
  rw[hr]at q
  rw[ho,show hol (fin { v.mach i with rest:=r.1,got := -1 } false)=r.1 by simp[hol,fin]]
  show v.qu.count g+((v.putR p r.2).rs.map fun r=>r.list.count g).sum+_=_
  omega
end
section
variable {n n':Nat}{v v':V}{i:Nat}{m':Mh}
theorem Inv.mvI(h:Inv n v)(hn:n≤n')(hi:i<v.M)(hm:Mok v.P v.M v.G m')(e:v'.mm=v.mm.set i m')(ee:v'.P=v.P∧v'.M=v.M∧v'.G=v.G∧v'.ms=v.ms∧v'.ns=v.ns∧v'.mc=v.mc∧v'.tu=v.tu∧v'.lg=v.lg)(er:v'.rs.length=v.rs.length)(ea:v'.sr.ad≤n')(ep:v'.id.ps.length=v.id.ps.length)
 (b1:m'.inn=(v.mach i).inn)(b2:m'.sn=(v.mach i).sn)(b3:m'.tk=(v.mach i).tk)(b4:(v.mach i).inn=true→(v.mach i).st=2∨m'.st=(v.mach i).st)
 (rg:Rgo v')(go:∀ g:Int,0≤g→g<v.G→Gok v' g)(id:Ido v')(pr:∀ p:Int,0≤p→p<v.P→v'.sm (fP p)+v'.id.pd.count p+(if v'.id.has p=true then 1 else 0)=1)(sp:v.ms.getD v.spn 0=((v'.sm fS+v'.id.pd.length:Nat):Int)):Inv n' v':=by
 have hl:i<v.mm.length:=by rw[h.ln.1];exact hi
 obtain⟨e1,e2,e3,e4,e5,e6,e7,e8⟩:=ee
 have q1:v'.spn=v.spn:=by unfold V.spn;rw[e1]
 have q2:v'.nts=v.nts:=by unfold V.nts;rw[q1]
 have q3:v'.wds=v.wds:=by unfold V.wds V.sts;rw[q2,e2,e3]
 exact⟨by rw[e1,e2,e3];exact h.cf,⟨by rw[e,List.length_set,e2];exact h.ln.1,by rw[er,e1];exact h.ln.2.1,by rw[e7,e1];exact h.ln.2.2.1,by rw[e4,q3];exact h.ln.2.2.2.1,by rw[e5,q3];exact h.ln.2.2.2.2.1,by rw[ep,e1];exact h.ln.2.2.2.2.2⟩,
  by rw[q1,e4,e5];exact h.nt,mk_put h e hi e2 e1 e3 hm,lko_put h hn e hi e2 e1 (fun _ _=>by rw[e4]) b1 b2 b3 b4,rg,by rw[e3];exact go,id,by rw[e1];exact pr,by rw[e4,q1];exact sp,by rw[e2,q2,e5];exact h.nb,⟨by rw[e6];exact Nat.le_trans h.cn.1 hn,by rw[e8];exact Nat.le_trans h.cn.2.1 hn,fun t ht=>by rw[e7]at ht;have:=h.cn.2.2.1 t ht;exact⟨this.1,by omega⟩,ea⟩⟩
theorem go_same(h:Inv n v)(hi:i<v.M)(e:v'.mm=v.mm.set i m')(e1:v'.P=v.P)(e2:v'.M=v.M)(e3:v'.G=v.G)(e5:v'.ns=v.ns)(e6:v'.sr=v.sr)(e7:v'.qu=v.qu)(e8:v'.rs=v.rs)(b:m'.pl=(v.mach i).pl∧m'.g=(v.mach i).g∧m'.got=(v.mach i).got∧m'.rest=(v.mach i).rest)(hk:m'.pl≠29∧m'.pl≠30):∀ g:Int,0≤g→g<v.G→Gok v' g:=by
 obtain⟨b1,b2,b3,b4⟩:=b
 have hd:m'.dlv=(v.mach i).dlv:=by unfold Mh.dlv;rw[b1]
 have hk':(v.mach i).pl≠29∧(v.mach i).pl≠30:=by rw[←b1];exact hk
 refine go_R h hi e e1 e2 e3 e5 e6 (fun g _=>by rw[e7,e8];unfold hol;rw[b3,b4,hd]) (fun g=>by unfold fG;rw[b2]) (fun g _=>by unfold fD;rw[b3,hd]) (fun g=>by simp[fK,hk,hk'])
theorem fst_some{l:List Bool}{k:Nat}(h:fst l=some k):k<l.length∧l.getD k false=true ∧ ∀ j,j<k→l.getD j false=false:=by
 induction l generalizing k with
 | nil=>simp[fst]at h
 | cons b l ih=>
   rcases b with _|_
   ·simp only[fst,Option.map_eq_some_iff]at h
    obtain⟨j,hj,rfl⟩:=h
    obtain⟨a1,a2,a3⟩:=ih hj
    refine⟨by simp;omega,by simpa using a2,fun q hq => ?_⟩
    rcases q with _|q
    ·rfl
    ·simpa using a3 q (by omega)
   ·simp only[fst,Option.some.injEq]at h
    subst h
    exact⟨by simp,by simp,fun j hj=>by omega⟩
theorem has_set{x:IV}{k:Nat}{b:Bool}(hk:k<x.ps.length)(p:Int):({ x with ps:=x.ps.set k b }:IV).has p=if p=(k:Int) then b else x.has p:=by
 unfold IV.has
 by_cases hp:p=(k:Int)
 ·subst hp
  simp[hk]
 ·by_cases h0:0≤p
  ·have:p.toNat≠k:=by omega
   simp[hp,h0,List.getElem?_set_ne (Ne.symm this)]
  ·simp[hp,h0]
theorem fP_le(h:i<v.mm.length)(p:Int):fP p (v.mach i)≤v.sm (fP p):=by
 have:=sm_set (v:=v) (v':=v.putM i { v.mach i with p := -1 - p.natAbs,nx := -1 - p.natAbs }) rfl h (fP p)
 have e:fP p { v.mach i with p := -1 - (p.natAbs:Int),nx := -1 - (p.natAbs:Int) } = 0:=by
  unfold fP
  rw[if_neg (by simp only;omega)]
 omega
theorem held(h:Inv n v)(hi:i<v.M)(h0:0≤(v.mach i).p)(h1:(v.mach i).p<v.P):(v.mach i).p ∉ v.id.pd∧v.id.has (v.mach i).p=false∧v.sm (fP (v.mach i).p)=1:=by
 have a:=h.pr _ h0 h1
 have b:=fP_le (v:=v) (by rw[h.ln.1];exact hi) (v.mach i).p
 have c:1≤fP (v.mach i).p (v.mach i):=by unfold fP;rw[if_pos rfl];omega
 refine⟨fun hm => ?_,?_,?_⟩
 ·have:=List.count_pos_iff.2 hm;omega
 ·rcases hh:v.id.has (v.mach i).p with _|_
  ·rfl
  ·rw[hh]at a;simp at a;omega
 ·omega
theorem mach_onM(h:i<v.mm.length)(f:Mh→Mh):(v.onM i f).mach i=f (v.mach i):=by
 unfold V.onM V.putM V.mach
 simp[h]
theorem release_nil(h:i<v.mm.length)(hq:v.qu.take v.share = []):v.release i=((v.putQ (v.qu.drop v.share)).putI (v.id.putP (v.mach i).p)).onM i fun m => { m with yes:=false,p := -1 }:=by
 unfold V.release
 simp only[V.takeQ,hq]
 rw[mach_onM (v:=v.putQ (v.qu.drop v.share)) h,if_neg (by simp[Mh.getAll])]
 exact onM2 (v:=(v.putQ (v.qu.drop v.share)).putI (v.id.putP (v.mach i).p)) h (·.getAll []) _
theorem release_cons(h:i<v.mm.length){x:Int}{l:List Int}(hq:v.qu.take v.share=x :: l):v.release i=(v.putQ (v.qu.drop v.share)).onM i (·.getAll (x :: l)):=by
 unfold V.release
 simp only[V.takeQ,hq]
 rw[mach_onM (v:=v.putQ (v.qu.drop v.share)) h]
 rfl
theorem inv_7(a:At n v i 7)(hn:n≤n'):Inv n' ((v.with' i (v.mach i).tm).1.onM i fun m=>fin m (v.with' i (v.mach i).tm).2):=by
 have hp:=a.pl
 have lc:=(loc_7 hp).1 a.mo.l
 simp only[a.af,Bool.false_and,Bool.false_eq_true,if_false]at lc
 have hr:(v.mach i).rest = []:=by simpa using lc.2.2.2.1
 have ho:hol (v.mach i) = []:=hol_none lc.2.2.1 hr
 have hx:∀ x ∈ v.qu.take v.share,0≤x∧x<v.G:=fun x hx=>a.h.rg.qu x (mem_takeQ (.inl hx))
 have hc:∀ g,v.qu.count g=(v.qu.take v.share).count g+(v.qu.drop v.share).count g:=fun g=>by rw[←List.count_append,List.take_append_drop]
 rcases hq:v.qu.take v.share with _|⟨x,l⟩
 ·have e:v.with' i (v.mach i).tm=(((v.putQ (v.qu.drop v.share)).putI (v.id.putP (v.mach i).p)).onM i fun m => { m with yes:=false,p := -1 },false):=by
   rw[show v.with' i (v.mach i).tm=(v.release i,false) by simp[V.with',hp],release_nil a.hl hq]
  rw[e,onM2 (v:=(v.putQ (v.qu.drop v.share)).putI (v.id.putP (v.mach i).p)) a.hl]
  obtain⟨h1,h2,h3⟩:=held a.h a.hi lc.1.1 lc.1.2
  have hps:(v.mach i).p.toNat<v.id.ps.length:=by rw[a.h.ln.2.2.2.2.2];omega
  have e2:v.id.putP (v.mach i).p = { v.id with ps:=v.id.ps.set (v.mach i).p.toNat true }:=by
   unfold IV.putP
   rw[if_pos ⟨lc.1.1,by omega,h1⟩]
  have em:(((v.putQ (v.qu.drop v.share)).putI (v.id.putP (v.mach i).p)).onM i fun m=>fin { m with yes:=false,p := -1 } false).mm=v.mm.set i (fin { v.mach i with yes:=false,p := -1 } false):=rfl
  rw[e2]at em ⊢
  dsimp only at em ⊢
  have hi0:=a.h.id
  refine a.h.mvI hn a.hi (do_7a (m:=v.mach i) a.mo a.inn a.st hp) em ⟨rfl,rfl,rfl,rfl,rfl,rfl,rfl,rfl⟩ rfl (Nat.le_trans a.h.cn.2.2.2 hn) (List.length_set) rfl rfl rfl (fun _ => .inl a.st) (a.h.rg.same rfl rfl rfl rfl (fun y hy=>a.h.rg.qu y (mem_takeQ (.inr hy))))
   (go_R a.h a.hi em rfl rfl rfl rfl rfl (fun g _ => ?_) (fun g=>rfl) (fun g _=>by simp[fD,fin,Mh.dlv,hp]) (fun g=>by simp[fK,fin,hp]))
   ⟨hi0.sn,hi0.sr,hi0.po,hi0.ps,hi0.pd,fun j hj hb => ?_⟩ (fun p p0 p1 => ?_) ?_
  ·rw[ho,show hol (fin { v.mach i with yes:=false,p := -1 } false) = [] from hol_none lc.2.2.1 hr]
   have:=hc g
   rw[hq]at this
   show (v.qu.drop v.share).count g+(v.rs.map fun r=>r.list.count g).sum+_=_
   simp only[List.count_nil]at this ⊢
   omega
  ·rw[mach_set em a.hl j]
   by_cases hj':j=i
   ·subst hj';exact absurd hb (a.nm (by decide))
   ·rw[if_neg hj'];exact hi0.mb j hj hb
  ·have s:=sm_set em a.hl (fP p)
   have q:=a.h.pr p p0 p1
   show _+v.id.pd.count p+(if ({ v.id with ps:=v.id.ps.set (v.mach i).p.toNat true }:IV).has p=true then 1 else 0)=1
   rw[has_set hps]
   have hpc:(((v.mach i).p.toNat:Nat):Int)=(v.mach i).p:=by omega
   rw[hpc]
   have f0:fP p (fin { v.mach i with yes:=false,p := -1 } false)=0:=by
    have hnx:(v.mach i).nx = -1:=by simpa using lc.2.2.2.2.2.2.2
    unfold fP fin;simp only;rw[if_neg (by omega),if_neg (by omega)]
   have f1:fP p (v.mach i)=if p=(v.mach i).p then 1 else 0:=by
    have hnx:(v.mach i).nx = -1:=by simpa using lc.2.2.2.2.2.2.2
    unfold fP;rw[if_neg (show ¬(v.mach i).nx=p by omega)]
    by_cases hpp:p=(v.mach i).p
    ·rw[if_pos hpp,if_pos hpp.symm]
    ·rw[if_neg hpp,if_neg (Ne.symm hpp)]
   rw[f0,f1]at s
   by_cases hpp:p=(v.mach i).p
   ·rw[if_pos hpp]at s ⊢
    rw[hpp,h2,if_neg (by simp)]at q
    rw[←hpp]at q
    rw[if_pos rfl]
    omega
   ·rw[if_neg hpp]at s ⊢
    omega
  ·rw[sm_same em a.hl (show fS _=fS _ by simp[fS,fin,Mh.claim,hp])];exact a.h.sp
 ·have e:v.with' i (v.mach i).tm=((v.putQ (v.qu.drop v.share)).onM i (·.getAll (x :: l)),false):=by
   rw[show v.with' i (v.mach i).tm=(v.release i,false) by simp[V.with',hp],release_cons a.hl hq]
  rw[e,onM2 (v:=v.putQ (v.qu.drop v.share)) a.hl]
  rw[hq]at hx
  have ho':hol (fin ((v.mach i).getAll (x :: l)) false)=x :: l:=hol_getAll lc.2.2.1 hr (by simp[Mh.dlv,hp]) (fun x h=>(hx x h).1) _
  refine inv_R a hn (m':=fin ((v.mach i).getAll (x :: l)) false) (by decide) (do_7b a.mo a.inn a.st hp _ _ hx) rfl ⟨rfl,rfl,rfl,rfl,rfl,rfl,rfl,rfl,rfl⟩ rfl rfl ⟨rfl,rfl,rfl,rfl,rfl,rfl,rfl,rfl⟩
   (a.h.rg.same rfl rfl rfl rfl (fun y hy=>a.h.rg.qu y (mem_takeQ (.inr hy)))) (fun g _ => ?_)
  rw[ho',ho]
  have:=hc g
  rw[hq]at this
  show (v.qu.drop v.share).count g+(v.rs.map fun r=>r.list.count g).sum+_=_
  simp only[List.count_nil]
  omega
theorem inv_9(a:At n v i 9)(hn:n≤n'):Inv n' ((v.with' i (v.mach i).tm).1.onM i fun m=>fin m (v.with' i (v.mach i).tm).2):=by
 have hp:=a.pl
 rw[show v.with' i (v.mach i).tm=(v.onM i fun m => { m with yes:=decide (0<(v.ring m.i.toNat).list.length) },false) by simp[V.with',hp],onM2 a.hl]
 exact inv_R a hn (m':=fin { v.mach i with yes:=decide (0<(v.ring (v.mach i).i.toNat).list.length) } false) (by decide) (do_9 (m:=v.mach i) a.mo a.inn a.st hp _) rfl ⟨rfl,rfl,rfl,rfl,rfl,rfl,rfl,rfl,rfl⟩ rfl rfl ⟨rfl,rfl,rfl,rfl,rfl,rfl,rfl,rfl⟩ (a.h.rg.same rfl rfl rfl rfl a.h.rg.qu) (fun g _=>rfl)
theorem inv_10(a:At n v i 10)(hn:n≤n'):Inv n' ((v.with' i (v.mach i).tm).1.onM i fun m=>fin m (v.with' i (v.mach i).tm).2):=by
 have hp:=a.pl
 rw[show v.with' i (v.mach i).tm=(v.onM i fun m => { m with yes:=decide (0<v.qu.length) },false) by simp[V.with',hp],onM2 a.hl]
 exact inv_R a hn (m':=fin { v.mach i with yes:=decide (0<v.qu.length) } false) (by decide) (do_10 (m:=v.mach i) a.mo a.inn a.st hp _) rfl ⟨rfl,rfl,rfl,rfl,rfl,rfl,rfl,rfl,rfl⟩ rfl rfl ⟨rfl,rfl,rfl,rfl,rfl,rfl,rfl,rfl⟩ (a.h.rg.same rfl rfl rfl rfl a.h.rg.qu) (fun g _=>rfl)
theorem inv_14(a:At n v i 14)(hn:n≤n'):Inv n' ((v.with' i (v.mach i).tm).1.onM i fun m=>fin m (v.with' i (v.mach i).tm).2):=by
 have hp:=a.pl
 rw[show v.with' i (v.mach i).tm=(v.onM i fun m => { m with yes:=v.sr.due },false) by simp[V.with',hp],onM2 a.hl]
 exact a.h.put hn a.hi (m':=fin { v.mach i with yes:=v.sr.due } false) (do_14 (m:=v.mach i) a.mo a.inn a.st hp _) rfl rfl rfl (fun _ => .inl a.st) (fun g _=>rfl) (fun g _=>rfl) (fun g _=>rfl) (fun g=>by simp[fK,fin,hp]) (fun p _=>rfl) (by simp[fS,fin,Mh.claim,hp]) (fun hb=>⟨(a.h.id.mb i a.hi hb).1,by simp[Mh.idl,fin,hp]⟩)
end
section
variable {n n':Nat}{v v':V}{i:Nat}{m':Mh}
theorem idle_p(h:Inv n v){p:Int}(h0:0≤p)(h1:p<v.P)(hh:v.id.has p=true):v.sm (fP p)=0∧p ∉ v.id.pd:=by
 have a:=h.pr p h0 h1
 rw[hh,if_pos rfl]at a
 refine⟨by omega,fun hm => ?_⟩
 have:=List.count_pos_iff.2 hm;omega
theorem inv_11(a:At n v i 11)(hn:n≤n'):Inv n' ((v.with' i (v.mach i).tm).1.onM i fun m=>fin m (v.with' i (v.mach i).tm).2):=by
 have hp:=a.pl
 have lc:=(loc_11 hp).1 a.mo.l
 simp only[a.af,Bool.false_and,Bool.false_eq_true,if_false]at lc
 have hi0:=a.h.id
 rcases hq:fst v.id.ps with _|k
 ·have e:v.with' i (v.mach i).tm=(v.onM i (·.hold (0,false)),false):=by simp[V.with',hp,IV.takeP,hq,V.putI]
  rw[e,onM2 a.hl]
  exact inv_R a hn (m':=fin ((v.mach i).hold (0,false)) false) (by decide) (do_11 a.mo a.inn a.st hp (0,false) (by simp)) rfl ⟨rfl,rfl,rfl,rfl,rfl,rfl,rfl,rfl,rfl⟩ rfl rfl ⟨rfl,rfl,rfl,rfl,rfl,rfl,rfl,rfl⟩ (a.h.rg.same rfl rfl rfl rfl a.h.rg.qu) (fun g _=>rfl)
 ·obtain⟨k1,k2,k3⟩:=fst_some hq
  have hkP:k<v.P:=by rw[←a.h.ln.2.2.2.2.2];exact k1
  have e:v.with' i (v.mach i).tm=((v.putI { v.id with ps:=v.id.ps.set k false }).onM i (·.hold ((k:Int),true)),false):=by simp[V.with',hp,IV.takeP,hq]
  rw[e,onM2 (v:=v.putI { v.id with ps:=v.id.ps.set k false }) a.hl]
  have em:((v.putI { v.id with ps:=v.id.ps.set k false }).onM i fun m=>fin (m.hold ((k:Int),true)) false).mm=v.mm.set i (fin ((v.mach i).hold ((k:Int),true)) false):=rfl
  dsimp only at em ⊢
  have hh:v.id.has (k:Int)=true:=by unfold IV.has;simpa using k2
  obtain⟨z1,z2⟩:=idle_p a.h (p:=(k:Int)) (by omega) (by omega) hh
  refine a.h.mvI hn a.hi (do_11 a.mo a.inn a.st hp ((k:Int),true) (fun _=>by simp only;omega)) em ⟨rfl,rfl,rfl,rfl,rfl,rfl,rfl,rfl⟩ rfl (Nat.le_trans a.h.cn.2.2.2 hn) (List.length_set) rfl rfl rfl (fun _ => .inl a.st) (a.h.rg.same rfl rfl rfl rfl a.h.rg.qu)
   (go_same a.h a.hi em rfl rfl rfl rfl rfl rfl rfl ⟨rfl,rfl,rfl,rfl⟩ (by show (v.mach i).pl≠29∧(v.mach i).pl≠30;omega))
   ⟨hi0.sn,hi0.sr,hi0.po,hi0.ps,hi0.pd,fun j hj hb => ?_⟩ (fun p p0 p1 => ?_) ?_
  ·rw[mach_set em a.hl j]
   by_cases hj':j=i
   ·subst hj';exact absurd hb (a.nm (by decide))
   ·rw[if_neg hj'];exact hi0.mb j hj hb
  ·have s:=sm_set em a.hl (fP p)
   have q:=a.h.pr p p0 p1
   show _+v.id.pd.count p+(if ({ v.id with ps:=v.id.ps.set k false }:IV).has p=true then 1 else 0)=1
   rw[has_set k1]
   have hnx:(v.mach i).nx = -1:=by simpa using lc.2.2.2.2.2.2
   have hpp:(v.mach i).p = -1:=by simpa using lc.1
   have f0:fP p (fin ((v.mach i).hold ((k:Int),true)) false)=if p=(k:Int) then 1 else 0:=by
    unfold fP fin;simp only[Mh.hold,if_true];rw[if_neg (show ¬(v.mach i).nx=p by omega)]
    by_cases hpk:p=(k:Int)
    ·rw[if_pos hpk,if_pos hpk.symm]
    ·rw[if_neg hpk,if_neg (Ne.symm hpk)]
   have f1:fP p (v.mach i)=0:=by unfold fP;rw[if_neg (by omega),if_neg (by omega)]
   rw[f0,f1]at s
   by_cases hpk:p=(k:Int)
   ·rw[if_pos hpk]at s ⊢
    rw[hpk,hh,if_pos rfl]at q
    rw[hpk]at s ⊢
    rw[if_neg (by simp)]
    omega
   ·rw[if_neg hpk]at s ⊢
    omega
  ·rw[sm_same em a.hl (show fS _=fS _ by simp[fS,fin,Mh.claim,Mh.hold,hp])];exact a.h.sp
theorem inv_13(a:At n v i 13)(hn:n≤n'):Inv n' ((v.with' i (v.mach i).tm).1.onM i fun m=>fin m (v.with' i (v.mach i).tm).2):=by
 have hp:=a.pl
 have lc:=(loc_13 hp).1 a.mo.l
 simp only[a.af,Bool.false_and,Bool.false_eq_true,if_false]at lc
 have hi0:=a.h.id
 have hnx:(v.mach i).nx = -1:=by simpa using lc.2.2.2.2.2.1
 have hpp:(v.mach i).p = -1:=by simpa using lc.1
 have hsp:(v.mach i).spin=false:=by simpa using lc.2.2.2.2.1
 rcases hq:v.id.pd with _|⟨q,l⟩
 ·have nm : ¬memb v i:=a.nm (by decide)
  have hst:¬((i:Int)<0∨(v.M:Int)≤i∨(i:Int)=v.id.po∨(i:Int) ∈ v.id.ss):=by
   rintro (h|h|h|h)
   ·omega
   ·have:=a.hi;omega
   ·exact nm (.inr h)
   ·exact nm (.inl h)
  have e:v.with' i (v.mach i).tm=((v.putI (v.id.stop v.M i).2).onM i fun m => { m with yes:=(v.id.stop v.M i).1 },false):=by simp[V.with',hp,V.stop,IV.takePend,hq]
  rw[e,onM2 (v:=v.putI (v.id.stop v.M i).2) a.hl]
  dsimp only
  have es:v.id.stop v.M i=if v.id.po = -1 then (true, { v.id with po:=(i:Int) }) else (false, { v.id with ss:=v.id.ss ++ [(i:Int)] }):=by unfold IV.stop;rw[if_neg hst]
  generalize hr:v.id.stop v.M i=r
  have em:((v.putI r.2).onM i fun m=>fin { m with yes:=r.1 } false).mm=v.mm.set i (fin { v.mach i with yes:=r.1 } false):=rfl
  have e1:r.2.ps=v.id.ps∧r.2.pd=v.id.pd:=by rw[←hr,es];split <;> exact⟨rfl,rfl⟩
  have hid:(fin { v.mach i with yes:=r.1 } false).nx = -1∧(fin { v.mach i with yes:=r.1 } false).idl=true:=⟨hnx,by simp[Mh.idl,fin,hp,Mh.aft,a.inn,hsp]⟩
  have hh:∀ p,r.2.has p=v.id.has p:=fun p=>by unfold IV.has;rw[e1.1]
  refine a.h.mvI hn a.hi (do_13b (m:=v.mach i) a.mo a.inn a.st hp r.1) em ⟨rfl,rfl,rfl,rfl,rfl,rfl,rfl,rfl⟩ rfl (Nat.le_trans a.h.cn.2.2.2 hn) (by show r.2.ps.length=_;rw[e1.1]) rfl rfl rfl (fun _ => .inl a.st) (a.h.rg.same rfl rfl rfl rfl a.h.rg.qu)
   (go_same a.h a.hi em rfl rfl rfl rfl rfl rfl rfl ⟨rfl,rfl,rfl,rfl⟩ (by show (v.mach i).pl≠29∧(v.mach i).pl≠30;omega)) ?_ (fun p p0 p1 => ?_) ?_
  ·have mm:∀ j,j<v.M→(j=i∨memb v j)→(((v.putI r.2).onM i fun m=>fin { m with yes:=r.1 } false).mach j).nx = -1∧(((v.putI r.2).onM i fun m=>fin { m with yes:=r.1 } false).mach j).idl=true:=fun j hj hb=>by
    rw[mach_set em a.hl j]
    by_cases hj':j=i
    ·rw[if_pos hj'];exact hid
    ·rw[if_neg hj'];exact hi0.mb j hj (hb.resolve_left hj')
   by_cases hpo:v.id.po = -1
   ·have er:r=(true, { v.id with po:=(i:Int) }):=by rw[←hr,es,if_pos hpo]
    refine⟨by rw[show ((v.putI r.2).onM i fun m=>fin { m with yes:=r.1 } false).id=r.2 from rfl,er];exact hi0.sn,by rw[show ((v.putI r.2).onM i fun m=>fin { m with yes:=r.1 } false).id=r.2 from rfl,er];exact hi0.sr, .inr ?_,?_,by rw[show ((v.putI r.2).onM i fun m=>fin { m with yes:=r.1 } false).id=r.2 from rfl,e1.2];exact hi0.pd,fun j hj hb=>mm j hj ?_⟩
    ·rw[show ((v.putI r.2).onM i fun m=>fin { m with yes:=r.1 } false).id=r.2 from rfl,er];have:=a.hi;exact⟨by simp only;omega,by show (i:Int)<v.M;omega⟩
    ·rw[show ((v.putI r.2).onM i fun m=>fin { m with yes:=r.1 } false).id=r.2 from rfl,er];exact fun h=>nm (.inl h)
    ·unfold memb at hb ⊢
     rw[show ((v.putI r.2).onM i fun m=>fin { m with yes:=r.1 } false).id=r.2 from rfl,er]at hb
     rcases hb with hb|hb
     ·exact .inr (.inl hb)
     ·exact .inl (by simp only at hb;omega)
   ·have er:r=(false, { v.id with ss:=v.id.ss ++ [(i:Int)] }):=by rw[←hr,es,if_neg hpo]
    have ei:((v.putI r.2).onM i fun m=>fin { m with yes:=r.1 } false).id = { v.id with ss:=v.id.ss ++ [(i:Int)] }:=by show r.2=_;rw[er]
    refine⟨by rw[ei];exact List.nodup_append.2 ⟨hi0.sn,by simp,fun x hx y hy=>by rw[List.mem_singleton.1 hy];exact fun e=>nm (.inl (e ▸ hx))⟩,?_,by rw[ei];exact hi0.po,?_,by rw[ei];exact hi0.pd,fun j hj hb=>mm j hj ?_⟩
    ·rw[ei]
     intro x hx
     rcases List.mem_append.1 hx with h|h
     ·exact hi0.sr x h
     ·rw[List.mem_singleton.1 h];have:=a.hi;exact⟨by omega,by show (i:Int)<v.M;omega⟩
    ·rw[ei]
     intro h
     rcases List.mem_append.1 h with h|h
     ·exact hi0.ps h
     ·exact nm (.inr (List.mem_singleton.1 h).symm)
    ·unfold memb at hb ⊢
     rw[ei]at hb
     rcases hb with hb|hb
     ·rcases List.mem_append.1 hb with h|h
      ·exact .inr (.inl h)
      ·have:=List.mem_singleton.1 h;exact .inl (by omega)
     ·exact .inr (.inr hb)
  ·show _+r.2.pd.count p+(if r.2.has p=true then 1 else 0)=1
   rw[sm_same em a.hl (show fP p _=fP p _ from rfl),e1.2,hh]
   exact a.h.pr p p0 p1
  ·show _=((_+r.2.pd.length:Nat):Int)
   rw[sm_same em a.hl (show fS _=fS _ by simp[fS,fin,Mh.claim,hp]),e1.2];exact a.h.sp
 ·have hqP:=hi0.pd q (by rw[hq];simp)
  have e:v.with' i (v.mach i).tm=((v.putI { v.id with pd:=l }).onM i fun m => { m with p:=q,spin:=true },false):=by simp[V.with',hp,V.stop,IV.takePend,hq]
  rw[e,onM2 (v:=v.putI { v.id with pd:=l }) a.hl]
  have em:((v.putI { v.id with pd:=l }).onM i fun m=>fin { m with p:=q,spin:=true } false).mm=v.mm.set i (fin { v.mach i with p:=q,spin:=true } false):=rfl
  dsimp only at em ⊢
  refine a.h.mvI hn a.hi (do_13a (m:=v.mach i) a.mo a.inn a.st hp q hqP) em ⟨rfl,rfl,rfl,rfl,rfl,rfl,rfl,rfl⟩ rfl (Nat.le_trans a.h.cn.2.2.2 hn) rfl rfl rfl rfl (fun _ => .inl a.st) (a.h.rg.same rfl rfl rfl rfl a.h.rg.qu)
   (go_same a.h a.hi em rfl rfl rfl rfl rfl rfl rfl ⟨rfl,rfl,rfl,rfl⟩ (by show (v.mach i).pl≠29∧(v.mach i).pl≠30;omega))
   ⟨hi0.sn,hi0.sr,hi0.po,hi0.ps,fun x hx=>hi0.pd x (by rw[hq];exact List.mem_cons_of_mem _ hx),fun j hj hb => ?_⟩ (fun p p0 p1 => ?_) ?_
  ·rw[mach_set em a.hl j]
   by_cases hj':j=i
   ·subst hj';exact absurd hb (a.nm (by decide))
   ·rw[if_neg hj'];exact hi0.mb j hj hb
  ·have s:=sm_set em a.hl (fP p)
   have w:=a.h.pr p p0 p1
   show _+l.count p+(if v.id.has p=true then 1 else 0)=1
   have f0:fP p (fin { v.mach i with p:=q,spin:=true } false)=if q=p then 1 else 0:=by
    unfold fP fin;simp only;rw[if_neg (show ¬(v.mach i).nx=p by omega)]
    omega
   have f1:fP p (v.mach i)=0:=by unfold fP;rw[if_neg (by omega),if_neg (by omega)]
   rw[f0,f1]at s
   rw[hq,List.count_cons]at w
   simp only[beq_iff_eq]at w
   omega
  ·have s:=sm_set em a.hl fS
   have w:=a.h.sp
   have f0:fS (fin { v.mach i with p:=q,spin:=true } false)=fS (v.mach i)+1:=by simp[fS,fin,Mh.claim,hp,hsp,hnx]
   dsimp only at f0
   show _=((_+l.length:Nat):Int)
   rw[hq,List.length_cons]at w
   omega
theorem inv_15(a:At n v i 15)(hn:n≤n'):Inv n' ((v.with' i (v.mach i).tm).1.onM i fun m=>fin m (v.with' i (v.mach i).tm).2):=by
 have hp:=a.pl
 have hi0:=a.h.id
 have e:v.with' i (v.mach i).tm=((v.putI (v.id.leave i).2).onM i fun m => { m with yes:=(v.id.leave i).1 },false):=by simp[V.with',hp]
 rw[e,onM2 (v:=v.putI (v.id.leave i).2) a.hl]
 dsimp only
 by_cases hpo:(i:Int)=v.id.po
 ·have er:v.id.leave i=(true, { v.id with po := -1 }):=by unfold IV.leave;rw[if_neg (by omega)]
  rw[er]
  have em:((v.putI { v.id with po := -1 }).onM i fun m=>fin { m with yes:=true } false).mm=v.mm.set i (fin { v.mach i with yes:=true } false):=rfl
  dsimp only at em ⊢
  refine a.h.mvI hn a.hi (do_15 (m:=v.mach i) a.mo a.inn a.st hp true (fun _=>(hi0.mb i a.hi (.inr hpo)).1)) em ⟨rfl,rfl,rfl,rfl,rfl,rfl,rfl,rfl⟩ rfl (Nat.le_trans a.h.cn.2.2.2 hn) rfl rfl rfl rfl (fun _ => .inl a.st) (a.h.rg.same rfl rfl rfl rfl a.h.rg.qu)
   (go_same a.h a.hi em rfl rfl rfl rfl rfl rfl rfl ⟨rfl,rfl,rfl,rfl⟩ (by show (v.mach i).pl≠29∧(v.mach i).pl≠30;omega))
   ⟨hi0.sn,hi0.sr, .inl rfl,fun h=>by have h':(-1:Int) ∈ v.id.ss:=h;have:=(hi0.sr _ h').1;omega,hi0.pd,fun j hj hb => ?_⟩ (fun p p0 p1 => ?_) ?_
  ·rw[mach_set em a.hl j]
   rcases hb with hb|hb
   ·have hb':(j:Int) ∈ v.id.ss:=hb
    by_cases hj':j=i
    ·subst hj';exact absurd (hpo ▸ hb') hi0.ps
    ·rw[if_neg hj'];exact hi0.mb j hj (.inl hb')
   ·have hb':(j:Int) = -1:=hb
    omega
  ·rw[sm_same em a.hl (show fP p _=fP p _ from rfl)];exact a.h.pr p p0 p1
  ·rw[sm_same em a.hl (show fS _=fS _ by simp[fS,fin,Mh.claim,hp])];exact a.h.sp
 ·have er:v.id.leave i=(false,v.id):=by unfold IV.leave;rw[if_pos (by omega)]
  rw[er]
  exact a.h.put hn a.hi (m':=fin { v.mach i with yes:=false } false) (do_15 (m:=v.mach i) a.mo a.inn a.st hp false (by simp)) rfl rfl rfl (fun _ => .inl a.st) (fun g _=>rfl) (fun g _=>rfl) (fun g _=>rfl) (fun g=>by simp[fK,fin,hp]) (fun p _=>rfl) (by simp[fS,fin,Mh.claim,hp]) (fun hb=>⟨(hi0.mb i a.hi hb).1,by simp[Mh.idl,fin,hp]⟩)
end
section
variable {n n':Nat}{v v':V}{i:Nat}{m':Mh}
theorem Inv.mvB(h:Inv n v)(hn:n≤n')(ee:v'.P=v.P∧v'.M=v.M∧v'.G=v.G∧v'.tu=v.tu)(hmm:v'.mm.length=v.mm.length)(mo:∀ j,j<v.M→Mok v.P v.M v.G (v'.mach j))(lkm:∀ j,j<v.M→(v'.mach j).inn=(v.mach j).inn∧(v'.mach j).sn=(v.mach j).sn∧(v'.mach j).tk=(v.mach j).tk∧((v.mach j).inn=true→(v.mach j).st=2∨(v'.mach j).st=(v.mach j).st))
 (er:v'.rs.length=v.rs.length)(ea:v'.sr.ad≤n')(ep:v'.id.ps.length=v.id.ps.length)(hms:v'.ms.length=v.ms.length)(hns:v'.ns.length=v.ns.length)(nt:∀ k,v.spn≤k→v'.ms.getD k 0=v'.ns.getD k 0)(ew:∀ k,k<v.spn→v'.ms.getD k 0=v.ms.getD k 0)(c1:v'.mc≤n')(c2:v'.lg.length≤n')
 (rg:Rgo v')(go:∀ g:Int,0≤g→g<v.G→Gok v' g)(id:Ido v')(pr:∀ p:Int,0≤p→p<v.P→v'.sm (fP p)+v'.id.pd.count p+(if v'.id.has p=true then 1 else 0)=1)(sp:v'.ms.getD v.spn 0=((v'.sm fS+v'.id.pd.length:Nat):Int))(nb:∀ j,j<v.M→v'.ns.getD (v.nts+j) 0=0∨v'.ns.getD (v.nts+j) 0=1):Inv n' v':=by
 obtain⟨e1,e2,e3,e4⟩:=ee
 have q1:v'.spn=v.spn:=by unfold V.spn;rw[e1]
 have q2:v'.nts=v.nts:=by unfold V.nts;rw[q1]
 have q3:v'.wds=v.wds:=by unfold V.wds V.sts;rw[q2,e2,e3]
 refine⟨by rw[e1,e2,e3];exact h.cf,⟨by rw[hmm,e2];exact h.ln.1,by rw[er,e1];exact h.ln.2.1,by rw[e4,e1];exact h.ln.2.2.1,by rw[hms,q3];exact h.ln.2.2.2.1,by rw[hns,q3];exact h.ln.2.2.2.2.1,by rw[ep,e1];exact h.ln.2.2.2.2.2⟩,
  by rw[q1];exact nt,by rw[e1,e2,e3];exact mo,fun k hk => ?_,rg,by rw[e3];exact go,id,by rw[e1];exact pr,by rw[q1];exact sp,by rw[e2,q2];exact nb,⟨c1,c2,fun t ht=>by rw[e4]at ht;have:=h.cn.2.2.1 t ht;exact⟨this.1,by omega⟩,ea⟩⟩
 rw[e1]at hk
 refine(h.lk k hk).of hn e2 (ew _ (by unfold V.spn;omega)) (ew _ (by unfold V.spn;omega)) fun j hj => ?_
 obtain⟨b1,b2,b3,b4⟩:=lkm j hj
 refine⟨b1,b2,b3,fun hin => ?_⟩
 rcases b4 hin with b|b
 ·by_cases hs:(v.mach j).sn=2*(k:Int)
  ·rcases ((h.lk k hk).tk j hj hin hs).2.2 with c|c
   ·omega
   ·exact .inr (.inl c)
  ·exact .inr (.inr hs)
 ·exact .inl b
theorem mo_put(h:Inv n v)(e:v'.mm=v.mm.set i m')(hi:i<v.M)(hm:Mok v.P v.M v.G m'):∀ j,j<v.M→Mok v.P v.M v.G (v'.mach j):=fun j hj=>by
 rw[mach_set e (by rw[h.ln.1];exact hi) j]
 by_cases hj':j=i
 ·rw[if_pos hj'];exact hm
 ·rw[if_neg hj'];exact h.mo j hj
theorem lkm_put(h:Inv n v)(e:v'.mm=v.mm.set i m')(hi:i<v.M)(b1:m'.inn=(v.mach i).inn)(b2:m'.sn=(v.mach i).sn)(b3:m'.tk=(v.mach i).tk)(b4:(v.mach i).inn=true→(v.mach i).st=2∨m'.st=(v.mach i).st):∀ j,j<v.M→(v'.mach j).inn=(v.mach j).inn∧(v'.mach j).sn=(v.mach j).sn∧(v'.mach j).tk=(v.mach j).tk∧((v.mach j).inn=true→(v.mach j).st=2∨(v'.mach j).st=(v.mach j).st):=fun j hj=>by
 rw[mach_set e (by rw[h.ln.1];exact hi) j]
 by_cases hj':j=i
 ·rw[if_pos hj',hj'];exact⟨b1,b2,b3,b4⟩
 ·rw[if_neg hj'];exact⟨rfl,rfl,rfl,fun _ => .inr rfl⟩
theorem nt_set(h:Inv n v){k:Nat}{x:Int}(e4:v'.ms=v.ms.set k x)(e5:v'.ns=v.ns.set k x):∀ j,v.spn≤j→v'.ms.getD j 0=v'.ns.getD j 0:=fun j hj=>by
 rw[e4,e5,getD_set,getD_set,h.ln.2.2.2.1,h.ln.2.2.2.2.1]
 split
 ·rfl
 ·exact h.nt j hj
theorem ew_set{k:Nat}{x:Int}(hk:v.spn≤k)(e4:v'.ms=v.ms.set k x):∀ j,j<v.spn→v'.ms.getD j 0=v.ms.getD j 0:=fun j hj=>by
 rw[e4,getD_set,if_neg (by omega)]
theorem id_sub(h:Ido v)(e:v'.P=v.P∧v'.M=v.M)(e1:v'.id.ss.Nodup)(e2:∀ x ∈ v'.id.ss,x ∈ v.id.ss)(e3:v'.id.po=v.id.po∨v'.id.po = -1)(e4:∀ x ∈ v'.id.pd,x ∈ v.id.pd∨(0≤x∧x<v.P))(mb:∀ j:Nat,j<v.M→memb v' j→(v'.mach j).nx = -1∧(v'.mach j).idl=true):Ido v':=by
 refine⟨e1,fun x hx=>by rw[e.2];exact h.sr x (e2 x hx),?_,?_,fun x hx => ?_,by rw[e.2];exact mb⟩
 ·rw[e.2]
  rcases e3 with h'|h'
  ·rw[h'];exact h.po
  ·exact .inl h'
 ·intro hx
  have:=e2 _ hx
  rcases e3 with h'|h'
  ·rw[h']at this;exact h.ps this
  ·rw[h']at this;have:=(h.sr _ this).1;omega
 ·rw[e.1]
  rcases e4 x hx with h'|h'
  ·exact h.pd x h'
  ·exact h'
theorem mb_put(h:Inv n v)(e:v'.mm=v.mm.set i m')(hi:i<v.M)(hb:memb v i→m'.nx = -1∧m'.idl=true)(hs:∀ j:Nat,memb v' j→memb v j):∀ j:Nat,j<v.M→memb v' j→(v'.mach j).nx = -1∧(v'.mach j).idl=true:=fun j hj hm=>by
 rw[mach_set e (by rw[h.ln.1];exact hi) j]
 by_cases hj':j=i
 ·subst hj';rw[if_pos rfl];exact hb (hs j hm)
 ·rw[if_neg hj'];exact h.id.mb j hj (hs j hm)
theorem fS_le(h:i<v.mm.length):fS (v.mach i)≤v.sm fS:=by
 have:=sm_set (v:=v) (v':=v.putM i (Mh.fresh 0 0)) rfl h fS
 have e:fS (Mh.fresh 0 0)=0:=by decide
 omega
theorem spn_lt(h:Inv n v):v.spn<v.ms.length∧v.spn<v.ns.length:=by
 rw[h.ln.2.2.2.1,h.ln.2.2.2.2.1]
 unfold V.wds V.sts V.nts
 omega
theorem nts_ne(i:Nat):v.nts+i≠v.spn:=by unfold V.nts;omega
theorem sub_len{α:Type}[DecidableEq α]{l m:List α}(hn:l.Nodup)(h:∀ x ∈ l,x ∈ m):l.length≤m.length:=by
 induction l generalizing m with
 | nil=>simp
 | cons x l ih=>
   rw[List.nodup_cons]at hn
   have hx:=h x (by simp)
   have:=ih (m:=m.erase x) hn.2 (fun y hy=>(List.mem_erase_of_ne (by rintro rfl;exact hn.1 hy)).2 (h y (by simp[hy])))
   rw[List.length_erase_of_mem hx]at this
   have:=List.length_pos_of_mem hx
   simp only[List.length_cons]
   omega
theorem rng_len{l:List Int}{N:Nat}(hn:l.Nodup)(h:∀ x ∈ l,0≤x∧x<N):l.length≤N:=by
 have:=sub_len (m:=(List.range N).map fun k:Nat=>(k:Int)) hn (fun x hx=>by
  have:=h x hx
  exact List.mem_map.2 ⟨x.toNat,List.mem_range.2 (by omega),by omega⟩)
 simpa using this
theorem pd_nodup(h:Inv n v):v.id.pd.Nodup:=by
 rw[List.nodup_iff_count]
 intro x
 rcases Nat.eq_zero_or_pos (v.id.pd.count x) with h0|h0
 ·omega
 ·have:=h.id.pd x (List.count_pos_iff.1 h0)
  have:=h.pr x this.1 this.2
  omega
theorem pd_len(h:Inv n v):v.id.pd.length≤v.P:=rng_len (pd_nodup h) h.id.pd
theorem ss_len(h:Inv n v):v.id.ss.length≤v.M:=rng_len h.id.sn h.id.sr
theorem sum_le{α:Type}(f : α → Nat)(c:Nat)(hf:∀ x,f x≤c)(l:List α):(l.map f).sum≤c*l.length:=by
 induction l with
 | nil=>simp
 | cons x l ih=>
   have:=hf x
   simp only[List.map_cons,List.sum_cons,List.length_cons,Nat.mul_add]
   omega
theorem fS_3(m:Mh):fS m≤3:=by
 unfold fS
 split <;> split <;> split <;> omega
theorem sm_fS(h:Inv n v):v.sm fS≤384:=by
 have:=sum_le fS 3 fS_3 v.mm
 have:=h.ln.1
 have:=h.cf
 unfold V.sm
 omega
theorem sp_word(h:Inv n v)(d:Int)(hd:d=1∨(d = -1∧1≤v.sm fS)):w64 (v.ms.getD v.spn 0+d)=v.ms.getD v.spn 0+d∧w64 (v.ns.getD v.spn 0+d)=v.ms.getD v.spn 0+d:=by
 have w:=h.sp
 have q:v.ns.getD v.spn 0=v.ms.getD v.spn 0:=(h.nt v.spn (Nat.le_refl _)).symm
 have a:=pd_len h
 have b:=sm_fS h
 have c:=h.cf
 rw[q]
 exact⟨w64_of (by omega),w64_of (by omega)⟩
theorem spin_eq(h:Inv n v)(d:Int)(hd:d=1∨(d = -1∧1≤v.sm fS)):v.spin d=v.both v.spn (v.ms.getD v.spn 0+d):=by
 obtain⟨a,b⟩:=sp_word h d hd
 unfold V.spin V.bothF V.both
 dsimp only
 rw[a,b]
theorem inv_spin(h:Inv n v)(hn:n+1≤n')(hi:i<v.M)(d:Int)(hd:d=1∨(d = -1∧1≤v.sm fS))(hm:Mok v.P v.M v.G m')(e:v'.mm=v.mm.set i m')(ev:v'=(v.both v.spn (v.ms.getD v.spn 0+d)).putM i m')
 (b1:m'.inn=(v.mach i).inn)(b2:m'.sn=(v.mach i).sn)(b3:m'.tk=(v.mach i).tk)(b4:(v.mach i).inn=true→(v.mach i).st=2∨m'.st=(v.mach i).st)
 (eR:∀ g:Int,0≤g→fR g m'=fR g (v.mach i))(eG:∀ g:Int,0≤g→fG g m'=fG g (v.mach i))(eD:∀ g:Int,0≤g→fD g m'=fD g (v.mach i))(eK:∀ g:Int,fK 29 g m'=fK 29 g (v.mach i)∧fK 30 g m'=fK 30 g (v.mach i))(eP:∀ p:Int,0≤p→fP p m'=fP p (v.mach i))(eS:(fS m':Int)=fS (v.mach i)+d)(hb:memb v i→m'.nx = -1∧m'.idl=true):Inv n' v':=by
 have hl:i<v.mm.length:=by rw[h.ln.1];exact hi
 obtain⟨l1,l2⟩:=spn_lt h
 have e4:v'.ms=v.ms.set v.spn (v.ms.getD v.spn 0+d):=by rw[ev];rfl
 have e5:v'.ns=v.ns.set v.spn (v.ms.getD v.spn 0+d):=by rw[ev];rfl
 have ei:v'.id=v.id:=by rw[ev];rfl
 have ens:∀ k,k≠v.spn→v'.ns.getD k 0=v.ns.getD k 0:=fun k hk=>by rw[e5,getD_set,if_neg (by omega)]
 have eP':v'.P=v.P:=by rw[ev];rfl
 have eM':v'.M=v.M:=by rw[ev];rfl
 have eG':v'.G=v.G:=by rw[ev];rfl
 have est:∀ g,v'.stat g=v.stat g:=fun g=>by
  unfold V.stat
  rw[eG',show v'.sts=v.sts by unfold V.sts V.nts V.spn;rw[eP',eM']]
  split
  ·exact ens _ (by unfold V.sts V.nts;omega)
  ·rfl
 refine h.mvB (by omega) ⟨eP',eM',eG',by rw[ev];rfl⟩ (by rw[e,List.length_set]) (mo_put h e hi hm) (lkm_put h e hi b1 b2 b3 b4) (by rw[ev];rfl) (by rw[ev];show v.sr.ad≤n';exact Nat.le_trans h.cn.2.2.2 (by omega)) (by rw[ei]) (by rw[e4,List.length_set]) (by rw[e5,List.length_set]) (nt_set h e4 e5) (ew_set (Nat.le_refl _) e4) (by rw[ev];show v.mc+1≤n';have:=h.cn.1;omega) (by rw[ev];show v.lg.length≤n';have:=h.cn.2.1;omega)
  (h.rg.same eP' eG' (by rw[ev];rfl) (by rw[ev];rfl) (by rw[ev];exact h.rg.qu)) (fun g g0 g1 => ?_) (id_put h e hi eM' eP' ei hb) (fun p p0 p1 => ?_) ?_ (fun j hj=>by rw[ens _ (nts_ne j)];exact h.nb j hj)
 ·refine(h.go g g0 g1).of (est g) ?_ (sm_same e hl (eG g g0)) (sm_same e hl (eD g g0)) (by rw[ev];rfl) (by rw[ev];rfl) (sm_same e hl (eK g).1) (sm_same e hl (eK g).2)
  have s:=sm_same e hl (eR g g0)
  unfold V.cR
  rw[s,show v'.qu=v.qu by rw[ev];rfl,show v'.rs=v.rs by rw[ev];rfl]
 ·rw[sm_same e hl (eP p p0),ei];exact h.pr p p0 p1
 ·have s:=sm_set e hl fS
  have w:=h.sp
  have f:=fS_le (v:=v) hl
  rw[e4,getD_set,if_pos ⟨rfl,l1⟩,ei]
  omega
theorem takeM_some{x:IV}{t:Int}{y:IV}(h:x.takeM=((t,true),y)):(t ∈ x.ss∨(t=x.po∧x.po ≠ -1))∧(x.ss.Nodup→y.ss.Nodup)∧(∀ z ∈ y.ss,z ∈ x.ss)∧(y.po=x.po∨y.po = -1)∧(x.ss.Nodup→x.po ∉ x.ss→t ∉ y.ss∧(t ≠ -1→t≠y.po))∧y.ps=x.ps∧y.pd=x.pd:=by
 unfold IV.takeM at h
 rcases hs:x.ss.getLast? with _|m
 ·rw[hs]at h
  simp only at h
  by_cases hpo:x.po = -1
  ·rw[if_pos hpo]at h;simp at h
  ·rw[if_neg hpo]at h
   simp only[Prod.mk.injEq,and_true]at h
   obtain⟨rfl,rfl⟩:=h
   exact⟨.inr ⟨rfl,hpo⟩,id,fun z hz=>hz, .inr rfl,fun _ hp=>⟨hp,fun h=>h⟩,rfl,rfl⟩
 ·rw[hs]at h
  simp only[Prod.mk.injEq,and_true]at h
  obtain⟨rfl,rfl⟩:=h
  have hm:=List.mem_of_getLast? hs
  have hd:x.ss.dropLast ++ [m]=x.ss:=by
   obtain⟨ys,hy⟩:=List.getLast?_eq_some_iff.1 hs
   rw[hy,List.dropLast_concat]
  refine⟨.inl hm,fun hn=>hn.sublist (List.dropLast_sublist _),fun z hz=>(List.dropLast_sublist _).subset hz, .inl rfl,fun hn hp=>⟨fun ht => ?_,fun _ e=>hp (e ▸ hm)⟩,rfl,rfl⟩
  rw[←hd,List.nodup_append]at hn
  exact hn.2.2 m ht m (by simp) rfl
theorem takeM_none{x y:IV}{t:Int}(h:x.takeM=((t,false),y)):y=x∧x.ss = []∧x.po = -1:=by
 unfold IV.takeM at h
 rcases hs:x.ss.getLast? with _|m
 ·rw[hs]at h
  simp only at h
  by_cases hpo:x.po = -1
  ·rw[if_pos hpo]at h
   simp only[Prod.mk.injEq,and_true]at h
   exact⟨h.2.symm,List.getLast?_eq_none_iff.1 hs,hpo⟩
  ·rw[if_neg hpo]at h;simp at h
 ·rw[hs]at h;simp at h
theorem inv_23(a:At n v i 23)(ht:0≤(v.mach i).tm)(hn:n+1≤n'):Inv n' ((v.with' i (v.mach i).tm).1.onM i fun m=>fin m (v.with' i (v.mach i).tm).2):=by
 have hp:=a.pl
 have lc:=(loc_23 hp).1 a.mo.l
 simp only[a.af,Bool.false_eq_true,if_false]at lc
 have hi0:=a.h.id
 have nm:¬memb v i:=a.nm (by decide)
 have hnx:(v.mach i).nx = -1:=lc.2.2.2.2.2.2.2.2
 have hsp:(v.mach i).spin=false:=lc.2.2.2.2.2.2.1
 have hcl:(v.mach i).claim=true:=by simp[Mh.claim,hp,a.af]
 have f1:fS (v.mach i)=1:=by simp[fS,hsp,hnx,hcl]
 have e0:v.with' i (v.mach i).tm=v.find i (v.mach i).tm:=by simp[V.with',V.give,hp]
 by_cases htm:0<(v.mach i).tm
 ·have hd:(-1:Int)=1∨((-1:Int) = -1∧1≤v.sm fS) := .inr ⟨rfl,by have:=fS_le (v:=v) a.hl;omega⟩
  have e:v.find i (v.mach i).tm=(v.spin (-1),false):=by unfold V.find;rw[if_pos htm]
  rw[e0,e,spin_eq a.h _ hd]
  exact inv_spin a.h hn a.hi (-1) hd (do_23b (m:=v.mach i) a.mo a.inn a.st hp) (m':=fin (v.mach i) false) rfl rfl rfl rfl rfl (fun _ => .inl a.st) (fun g _=>rfl) (fun g _=>rfl) (fun g _=>rfl) (fun g=>by simp[fK,fin,hp]) (fun p _=>rfl) (by rw[f1];simp[fS,fin,hsp,hnx,Mh.claim,Mh.aft,a.inn]) (fun hb=>absurd hb nm)
 ·have htm0:(v.mach i).tm=0:=by omega
  rcases hq:fst v.id.ps with _|k
  ·have e:v.find i (v.mach i).tm=(v,true):=by unfold V.find;rw[if_neg htm];simp[IV.takeP,hq]
   rw[e0,e]
   exact a.h.put (by omega) a.hi (m':=fin (v.mach i) true) (do_23c (m:=v.mach i) a.mo a.inn a.st hp htm0) rfl rfl rfl (fun _ => .inl a.st) (fun g _=>rfl) (fun g _=>rfl) (fun g _=>rfl) (fun g=>by simp[fK,fin,hp]) (fun p _=>rfl) (by rw[f1];simp[fS,fin,hsp,hnx,Mh.claim,Mh.aft,hp]) (fun hb=>absurd hb nm)
  ·obtain⟨k1,k2,k3⟩:=fst_some hq
   have hkP:k<v.P:=by rw[←a.h.ln.2.2.2.2.2];exact k1
   have hh:v.id.has (k:Int)=true:=by unfold IV.has;simpa using k2
   obtain⟨z1,z2⟩:=idle_p a.h (p:=(k:Int)) (by omega) (by omega) hh
   have eP:v.id.takeP=(((k:Int),true), { v.id with ps:=v.id.ps.set k false }):=by unfold IV.takeP;rw[hq]
   obtain⟨⟨t,b⟩,y,hT⟩:∃ r y,({ v.id with ps:=v.id.ps.set k false }:IV).takeM=(r,y):=⟨_,_,rfl⟩
   rcases b with _|_
   ·obtain⟨ey,es,epo⟩:=takeM_none hT
    have e:v.find i (v.mach i).tm=(v.putI (({ v.id with ps:=v.id.ps.set k false }:IV).pend k),false):=by
     unfold V.find
     rw[if_neg htm,eP]
     simp only[hT,if_true,Bool.false_eq_true,if_false,ey]
    have epd:({ v.id with ps:=v.id.ps.set k false }:IV).pend k = { v.id with ps:=v.id.ps.set k false,pd:=v.id.pd ++ [(k:Int)] }:=by
     unfold IV.pend
     rw[if_pos ⟨by omega,by simp;omega,by rw[has_set k1,if_pos rfl],z2⟩]
    rw[e0,e,epd]
    have em:((v.putI { v.id with ps:=v.id.ps.set k false,pd:=v.id.pd ++ [(k:Int)] }).onM i fun m=>fin m false).mm=v.mm.set i (fin (v.mach i) false):=rfl
    dsimp only at em ⊢
    refine a.h.mvI (by omega) a.hi (do_23b (m:=v.mach i) a.mo a.inn a.st hp) em ⟨rfl,rfl,rfl,rfl,rfl,rfl,rfl,rfl⟩ rfl (Nat.le_trans a.h.cn.2.2.2 (by omega)) (List.length_set) rfl rfl rfl (fun _ => .inl a.st) (a.h.rg.same rfl rfl rfl rfl a.h.rg.qu)
     (go_same a.h a.hi em rfl rfl rfl rfl rfl rfl rfl ⟨rfl,rfl,rfl,rfl⟩ (by show (v.mach i).pl≠29∧(v.mach i).pl≠30;omega))
     (id_sub hi0 ⟨rfl,rfl⟩ hi0.sn (fun x hx=>hx) (.inl rfl) (fun x hx => ?_) (mb_put a.h em a.hi (fun hb=>absurd hb nm) (fun j hj=>hj))) (fun p p0 p1 => ?_) ?_
    ·rcases List.mem_append.1 hx with h|h
     ·exact .inl h
     ·rw[List.mem_singleton.1 h];exact .inr (by omega)
    ·have w:=a.h.pr p p0 p1
     show _+(v.id.pd ++ [(k:Int)]).count p+(if ({ v.id with ps:=v.id.ps.set k false }:IV).has p=true then 1 else 0)=1
     rw[sm_same em a.hl (show fP p _=fP p _ from rfl),has_set k1,List.count_append,List.count_singleton]
     by_cases hpk:p=(k:Int)
     ·rw[if_pos hpk,if_neg (show ¬(false=true) by simp),if_pos (show ((k:Int) == p)=true by simp[hpk])]
      rw[hpk,hh,if_pos rfl]at w
      rw[hpk];omega
     ·rw[if_neg hpk,if_neg (show ¬(((k:Int) == p)=true) by rw[beq_iff_eq];exact Ne.symm hpk)]
      omega
    ·have s:=sm_set em a.hl fS
     have w:=a.h.sp
     have f0:fS (fin (v.mach i) false)=0:=by simp[fS,fin,hsp,hnx,Mh.claim,Mh.aft,a.inn]
     rw[f0,f1]at s
     show _=((_+(v.id.pd ++ [(k:Int)]).length:Nat):Int)
     rw[List.length_append]
     simp only[List.length_cons,List.length_nil]
     omega
   ·obtain⟨t1,t2,t3,t4,t5,t6,t7⟩:=takeM_some hT
    have hmb:memb v t:=by
     rcases t1 with h|h
     ·exact .inl h
     ·exact .inr h.1
    have htM:0≤t∧t<v.M:=by
     rcases t1 with h|h
     ·exact hi0.sr t h
     ·have:=hi0.po
      rw[h.1]
      rcases this with h'|h'
      ·exact absurd h' h.2
      ·exact h'
    obtain⟨t,rfl⟩:∃ q:Nat,t=(q:Int):=⟨t.toNat,by omega⟩
    have htM':t<v.M:=by omega
    have hti:t≠i:=fun e=>nm (e ▸ hmb)
    have htm':=hi0.mb t htM' hmb
    have hmt:=a.h.mo t htM'
    obtain⟨y1,y2⟩:=t5 hi0.sn hi0.ps
    have e:v.find i (v.mach i).tm=((((v.putI y).onM t fun m => { m with nx:=(k:Int) }).onM i fun m => { m with tg:=(t:Int) }),false):=by
     unfold V.find
     rw[if_neg htm,eP]
     simp only[hT,if_true,Int.toNat_natCast]
    have hl1:i<((v.putI y).onM t fun m => { m with nx:=(k:Int) }).mm.length:=by show i<(v.mm.set t _).length;rw[List.length_set];exact a.hl
    rw[e0,e,onM2 hl1]
    dsimp only
    generalize hv1:(v.putI y).onM t (fun m => { m with nx:=(k:Int) })=v1 at hl1 ⊢
    have e1:v1.mm=v.mm.set t { v.mach t with nx:=(k:Int) }:=by rw[←hv1];rfl
    have htl:t<v.mm.length:=by rw[a.h.ln.1];exact htM'
    have hmi:v1.mach i=v.mach i:=by rw[mach_set e1 htl,if_neg (Ne.symm hti)]
    have e2:(v1.onM i fun m=>fin { m with tg:=(t:Int) } false).mm=v1.mm.set i (fin { v.mach i with tg:=(t:Int) } false):=by
     show v1.mm.set i (fin { v1.mach i with tg:=(t:Int) } false)=_
     rw[hmi]
    generalize hv2:(v1.onM i fun m=>fin { m with tg:=(t:Int) } false)=v2 at e2 ⊢
    dsimp only at e1 e2
    have eid:v2.id=y:=by rw[←hv2, ←hv1];rfl
    have hmach:∀ j,v2.mach j=if j=i then fin { v.mach i with tg:=(t:Int) } false else if j=t then { v.mach t with nx:=(k:Int) } else v.mach j:=fun j=>by
     rw[mach_set e2 hl1,mach_set e1 htl]
    have s2:∀ f:Mh→Nat,v2.sm f+f (v.mach i)+f (v.mach t)=v.sm f+f (fin { v.mach i with tg:=(t:Int) } false)+f { v.mach t with nx:=(k:Int) }:=fun f=>by
     have a1:=sm_set e1 htl f
     have a2:=sm_set e2 hl1 f
     rw[hmi]at a2
     dsimp only at a1 a2 ⊢
     omega
    have hmem:∀ j:Nat,memb v2 j→memb v j∧j≠t:=fun j hj=>by
     unfold memb at hj ⊢
     rw[eid]at hj
     rcases hj with hj|hj
     ·exact⟨.inl (t3 _ hj),fun e=>y1 (e ▸ hj)⟩
     ·refine⟨?_,fun e=>y2 (by omega) (e ▸ hj)⟩
      rcases t4 with h|h
      ·exact .inr (hj.trans h)
      ·rw[h]at hj;omega
    have smf:∀ f:Mh→Nat,f (fin { v.mach i with tg:=(t:Int) } false)=f (v.mach i)→f { v.mach t with nx:=(k:Int) } = f (v.mach t)→v2.sm f=v.sm f:=fun f h1 h2=>by
     have:=s2 f
     omega
    refine a.h.mvB (by omega) ⟨by rw[←hv2, ←hv1];rfl,by rw[←hv2, ←hv1];rfl,by rw[←hv2, ←hv1];rfl,by rw[←hv2, ←hv1];rfl⟩ (by rw[e2,List.length_set,e1,List.length_set]) (fun j hj => ?_) (fun j hj => ?_) (by rw[←hv2, ←hv1];rfl) (by rw[←hv2, ←hv1];exact Nat.le_trans a.h.cn.2.2.2 (by omega)) (by rw[eid,t6];exact List.length_set) (by rw[←hv2, ←hv1];rfl) (by rw[←hv2, ←hv1];rfl) (by rw[←hv2, ←hv1];exact a.h.nt) (by rw[←hv2, ←hv1];exact fun _ _=>rfl)
     (by rw[←hv2, ←hv1];exact Nat.le_trans a.h.cn.1 (by omega)) (by rw[←hv2, ←hv1];exact Nat.le_trans a.h.cn.2.1 (by omega)) (a.h.rg.same (by rw[←hv2, ←hv1];rfl) (by rw[←hv2, ←hv1];rfl) (by rw[←hv2, ←hv1];rfl) (by rw[←hv2, ←hv1];rfl) (by rw[←hv2, ←hv1];exact a.h.rg.qu)) (fun g g0 g1 => ?_)
     (id_sub hi0 ⟨by rw[←hv2, ←hv1];rfl,by rw[←hv2, ←hv1];rfl⟩ (by rw[eid];exact t2 hi0.sn) (by rw[eid];exact t3) (by rw[eid];exact t4) (by rw[eid,t7];exact fun x hx => .inl hx) (fun j hj hb => ?_)) (fun p p0 p1 => ?_) ?_ (by rw[←hv2, ←hv1];exact a.h.nb)
    ·rw[hmach]
     by_cases h1:j=i
     ·rw[if_pos h1];exact do_23a (m:=v.mach i) a.mo a.inn a.st hp (t:Int) htM
     ·rw[if_neg h1]
      by_cases h2:j=t
      ·rw[if_pos h2];exact mok_nx hmt htm'.2 _ (by omega)
      ·rw[if_neg h2];exact a.h.mo j hj
    ·rw[hmach]
     by_cases h1:j=i
     ·rw[if_pos h1,h1];exact⟨rfl,rfl,rfl,fun _ => .inl a.st⟩
     ·rw[if_neg h1]
      by_cases h2:j=t
      ·rw[if_pos h2,h2];exact⟨rfl,rfl,rfl,fun _ => .inr rfl⟩
      ·rw[if_neg h2];exact⟨rfl,rfl,rfl,fun _ => .inr rfl⟩
    ·refine(a.h.go g g0 g1).of (by rw[←hv2, ←hv1];rfl) ?_ (smf _ rfl rfl) (smf _ rfl rfl) (by rw[←hv2, ←hv1];rfl) (by rw[←hv2, ←hv1];rfl) (smf _ (by simp[fK,fin,hp]) rfl) (smf _ (by simp[fK,fin,hp]) rfl)
     unfold V.cR
     rw[smf (fR g) rfl rfl,show v2.qu=v.qu by rw[←hv2, ←hv1];rfl,show v2.rs=v.rs by rw[←hv2, ←hv1];rfl]
    ·obtain⟨hb1,hb2⟩:=hmem j hb
     have hji:j≠i:=fun e=>nm (e ▸ hb1)
     rw[hmach,if_neg hji,if_neg hb2]
     exact hi0.mb j hj hb1
    ·have w:=a.h.pr p p0 p1
     have s:=s2 (fP p)
     have g1:fP p (fin { v.mach i with tg:=(t:Int) } false)=fP p (v.mach i):=rfl
     have g2:fP p { v.mach t with nx:=(k:Int) } = fP p (v.mach t)+if p=(k:Int) then 1 else 0:=by
      unfold fP
      simp only
      rw[htm'.1,if_neg (show ¬(-1:Int)=p by omega)]
      by_cases hpk:p=(k:Int)
      ·rw[if_pos hpk,if_pos hpk.symm]
      ·rw[if_neg hpk,if_neg (Ne.symm hpk)]
     rw[eid,t7,show y.has p=({ v.id with ps:=v.id.ps.set k false }:IV).has p by unfold IV.has;rw[t6],has_set k1]
     dsimp only at g1 g2 s ⊢
     by_cases hpk:p=(k:Int)
     ·rw[if_pos hpk]at g2 ⊢
      rw[if_neg (by simp)]
      rw[hpk,hh,if_pos rfl]at w
      rw[hpk]at g1 g2 s ⊢
      omega
     ·rw[if_neg hpk]at g2 ⊢
      omega
    ·have w:=a.h.sp
     have s:=s2 fS
     have f0:fS (fin { v.mach i with tg:=(t:Int) } false)=0:=by simp[fS,fin,hsp,hnx,Mh.claim,Mh.aft,a.inn]
     have f2:fS { v.mach t with nx:=(k:Int) } = fS (v.mach t)+1:=by
      have c1:({ v.mach t with nx:=(k:Int) }:Mh).claim=(v.mach t).claim:=rfl
      unfold fS
      rw[c1]
      simp only
      rw[htm'.1,if_neg (show ¬((k:Int) = -1) by omega),if_pos rfl]
      omega
     dsimp only at f0 f2 s
     rw[eid,t7,show v2.ms=v.ms by rw[←hv2, ←hv1];rfl]
     show _=((_+v.id.pd.length:Nat):Int)
     omega
end
end Go.Proofs.YtkhigkcmgcafdaaGreatDoor.Y
