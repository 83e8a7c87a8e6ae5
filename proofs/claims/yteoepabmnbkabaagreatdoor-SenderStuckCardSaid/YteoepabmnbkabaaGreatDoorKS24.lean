/- 7 texts put together: what each one says stands ahead of it. -/
import Derived.Test.YteoepabmnbkabaaGreatDoorKS15
import Derived.Test.YteoepabmnbkabaaGreatDoorKS16
import Derived.Test.YteoepabmnbkabaaGreatDoorKS13
import Derived.Test.YteoepabmnbkabaaGreatDoorKS17
import Derived.Test.YteoepabmnbkabaaGreatDoorKS20
import Derived.Test.YteoepabmnbkabaaGreatDoorKS21
import Derived.Test.YteoepabmnbkabaaGreatDoorKS22
import Derived.Test.YteoepabmnbkabaaGreatDoorKS04
import Derived.Test.YteoepabmnbkabaaGreatDoorKS07
import Derived.Test.YteoepabmnbkabaaGreatDoorKS01
import Derived.Test.YteoepabmnbkabaaGreatDoorKS23
import Derived.Deep.RegionHeld3
import Derived.BigRegion
import Derived.Deep.QuietTactic
import Derived.BigQuiet
set_option linter.unusedVariables false
namespace Go.Proofs.YteoepabmnbkabaaGreatDoor
open Go.RowKit Cf
structure EvS where
 now:Nat
 sd:Nat
 si:Nat
 sr:Nat
 rt:Nat
 sl:Bool
 sm:Bool
 dl:Nat
 ac:Nat
 lo:Nat
 fl:Nat
structure EvS.ok (x:EvS):Prop where
 now:x.now≤18446744073709551615
 sd:x.sd≤18446744073709551615
 si:x.si≤18446744073709551615
 sr:x.sr≤18446744073709551615
 rt:x.rt≤18446744073709551615
 dl:x.dl≤18446744073709551615
 ac:x.ac≤18446744073709551615
 lo:x.lo≤18446744073709551615
 fl:x.fl≤18446744073709551615
structure ES where
 c:Setup
 p:Pi
 bs:BS
 f:FS
 y:CY
 n:Ct
 st:Int
 began:Nat
 rounds:Nat
 acked:Nat
 lost:Nat
 cwnd:Nat
 kept:Nat
 ended:Nat
def firstC (c:Setup):Nat:=Pl.mulS (c 1) (c 0)
def leastC (c:Setup):Nat:=Pl.mulS 4 (c 0)
def ES.trip (s:ES):Nat:=if s.f.some=true then s.f.best.x else 1000
def ES.rate (s:ES):Nat:=if s.y.best=0 then Pl.shareS (firstC s.c) 1000000 s.trip else s.y.best
def ES.holds (s:ES):Nat:=Pl.overS s.rate s.trip 1000000
def ES.uses (s:ES):Nat:=Pl.overS (s.bs.limit s.rate) s.trip 1000000
def ES.pace (s:ES):Nat:=min (max (paceG (stG s.st) (s.bs.limit s.rate)) (leastC s.c)) 1099511627776
def ES.quant (s:ES):Nat:=quantumC (s.c 0) s.pace
def ES.stale (s:ES) (now:Nat):Bool:=s.f.some && decide (s.c 3 / 2 < Pl.subS now (max s.f.best.t s.ended))
def ES.count (s:ES) (x:EvS):ES:={s with acked:=Pl.addS s.acked x.ac,lost:=Pl.addS s.lost x.lo}
def ES.rput (s:ES) (x:EvS):Bool:=!x.sl || decide (s.y.best≤x.sr)
def ES.mea (s:ES) (x:EvS):ES:=
 if x.sm=true then {s with f:=s.f.put x.now x.rt,y:=if s.rput x=true then s.y.put [x.sr] else s.y,n:=s.n.ackS (Pl.subS x.dl x.sd) x.dl}
 else {s with f:=s.f.to x.now}
def ES.over (s:ES) (x:EvS):Bool:=x.sm && s.n.ackB (Pl.subS x.dl x.sd)
def ES.lossy (s:ES):Bool:=decide (Pl.mulS (s.c 5) (Pl.addS s.acked s.lost) < Pl.mulS s.lost 1000)
def ES.settle (s:ES):ES:={s with acked:=0,lost:=0,rounds:=Pl.addS s.rounds 1}
def ES.pput (s:ES) (o l:Bool):ES:={s with p:=s.p.put s.y.best o l}
def ES.yield (s:ES) (x:EvS):ES:={s with bs:=if s.st=0∨s.st=5 then s.bs.pull x.fl s.holds else s.bs.lose x.sd x.sr s.cwnd}
def ES.sig (s:ES) (x:EvS) (o l:Bool):SigS:=⟨s.p.full,o,l,s.stale x.now,x.fl,s.holds,s.bs.room,s.rounds,Pl.subS x.now s.began,waitS s.st s.y.n (s.c 4)⟩
def ES.side (s:ES) (now:Nat) (t:Int):ES:=
 if s.st=6 then {s with ended:=now,cwnd:=max s.cwnd s.kept}
 else if t=6 then {s with kept:=s.cwnd}
 else if t=4 then {s with bs:=s.bs.short}
 else if s.st=5∧t=2 then {s with y:=s.y.next}
 else s
def ES.turn (s:ES) (now:Nat) (t:Int):ES:=if t=s.st then s else {s.side now t with st:=t,began:=now,rounds:=0}
def ES.push (s:ES) (x:EvS):ES:={s with bs:=s.bs.push x.ac}
def ES.o1 (s:ES) (ac:Nat):Nat:=if s.st≠0∨s.p.full=true then min (Pl.addS s.cwnd ac) (Pl.addS (windowG (stG s.st) s.uses) s.quant) else Pl.addS s.cwnd ac
def ES.o2 (s:ES) (ac:Nat):Nat:=s.bs.cap [s.o1 ac]
def ES.o3 (s:ES) (ac:Nat):Nat:=if s.st=2∨s.st=3 then min (s.o2 ac) s.bs.room else if s.st=6 then min (s.o2 ac) (windowG (stG s.st) s.uses) else s.o2 ac
def ES.open (s:ES) (ac:Nat):Nat:=min (max (s.o3 ac) (leastC s.c)) 72057594037927936
def ES.e3 (s:ES) (x:EvS):ES:=if (s.count x).over x=true then ((s.count x).mea x).settle else (s.count x).mea x
def ES.eo (s:ES) (x:EvS):Bool:=(s.count x).over x
def ES.el (s:ES) (x:EvS):Bool:=s.eo x && ((s.count x).mea x).lossy
def ES.e4 (s:ES) (x:EvS):ES:=if x.sm=true then (s.e3 x).pput (s.eo x) x.sl else s.e3 x
def ES.e5 (s:ES) (x:EvS):ES:=if s.el x=true then (s.e4 x).yield x else s.e4 x
def ES.e6 (s:ES) (x:EvS):ES:=(s.e5 x).turn x.now (nextS (s.e5 x).st ((s.e5 x).sig x (s.eo x) (s.el x)))
def ES.e7 (s:ES) (x:EvS):ES:=if (s.e6 x).st=5∧s.el x=false then (s.e6 x).push x else s.e6 x
def ES.on (s:ES) (x:EvS):ES:={s.e7 x with cwnd:=(s.e7 x).open x.ac}
structure ES.ok (s:ES) (k:Nat):Prop where
 c:∀i,s.c i≤18446744073709551615
 p:s.p.ok
 bs:s.bs.ok
 f:s.f.ok
 fn:s.f.l.length≤k
 fx:∀r∈s.f.l,r.x≤18446744073709551615
 ya:s.y.a≤18446744073709551615
 yt:s.y.t≤18446744073709551615
 yn:s.y.n≤18446744073709551615
 nm:s.n.mark≤18446744073709551615
 nn:s.n.n≤k
 st:0≤s.st∧s.st≤6
 began:s.began≤18446744073709551615
 rounds:s.rounds≤18446744073709551615
 acked:s.acked≤18446744073709551615
 lost:s.lost≤18446744073709551615
 cwnd:s.cwnd≤18446744073709551615
 kept:s.kept≤18446744073709551615
 ended:s.ended≤18446744073709551615
theorem FS.to_x {f:FS} {t:Nat} {B:Nat} (h:∀r∈f.l,r.x≤B):∀r∈(f.to t).l,r.x≤B:=by
 unfold FS.to;split
 ·exact h
 ·exact fun r hr=>h r ((List.dropWhile_sublist _).subset hr)
theorem FS.put_x {f:FS} {t x:Nat} {B:Nat} (h:∀r∈f.l,r.x≤B) (hx:x≤B):∀r∈(f.put t x).l,r.x≤B:=by
 have h2:=FS.to_x (t:=t) h
 unfold FS.put;split
 ·exact h
 ·intro r hr
  simp only [List.mem_append,List.mem_singleton] at hr
  rcases hr with hr | rfl
  ·obtain ⟨q,hq,_⟩:=popL_split (bt f.least ⟨t,x⟩) (f.to t).l
   exact h2 r (by rw [hq];exact List.mem_append_left _ hr)
  ·exact hx
theorem FS.best_x {f:FS} {B:Nat} (h:∀r∈f.l,r.x≤B):f.best.x≤B:=by
 unfold FS.best
 match hl:f.l with
 | []=>exact Nat.zero_le _
 | r :: _=>exact h r (by rw [hl];exact List.mem_cons_self)
theorem FS.best_t {f:FS} (h:f.ok):f.best.t≤18446744073709551615:=by
 unfold FS.best
 match hl:f.l with
 | []=>exact Nat.zero_le _
 | r :: _=>exact h.l r (by rw [hl];exact List.mem_cons_self)
theorem CY.best_le {y:CY} {B:Nat} (ha:y.a≤B) (ht:y.t≤B):y.best≤B:=by unfold CY.best;omega
theorem ES.trip_le {s:ES} {k:Nat} (h:s.ok k):s.trip≤18446744073709551615:=by
 have:=FS.best_x h.fx
 unfold ES.trip;split <;> omega
theorem ES.rate_le {s:ES} {k:Nat} (h:s.ok k):s.rate≤18446744073709551615:=by
 have:=CY.best_le h.ya h.yt
 have:=Pl.shareS_le (firstC s.c) 1000000 s.trip
 unfold ES.rate;split <;> omega
theorem ES.limit_le {s:ES} {k:Nat} (h:s.ok k):s.bs.limit s.rate≤18446744073709551615:=by
 have:=ES.rate_le h
 unfold BS.limit;omega
theorem ES.holds_le (s:ES):s.holds≤18446744073709551615:=Pl.overS_le _ _ _
theorem ES.uses_le (s:ES):s.uses≤18446744073709551615:=Pl.overS_le _ _ _
theorem ES.pace_le (s:ES):s.pace≤1099511627776:=Nat.min_le_right _ _
theorem windowG_le (k x:Nat):windowG k x≤18446744073709551615:=Pl.overS_le _ _ _
theorem firstC_le (c:Setup):firstC c≤18446744073709551615:=Pl.mulS_le _ _
theorem ES.quant_le (s:ES):s.quant≤18446744073709551615:=by
 have:=Pl.mulS_le 64 (s.c 0)
 unfold ES.quant quantumC;omega
theorem BS.room_le {b:BS} (h:b.ok):b.room≤18446744073709551615:=by
 unfold BS.room;split
 ·exact Nat.le_refl _
 ·exact Pl.shareS_le _ _ _
theorem waitS_le (s:Int) (n p:Nat) (hp:p≤18446744073709551615):waitS s n p≤18446744073709551615:=by
 have:n % 8 < 8:=Nat.mod_lt _ (by omega)
 unfold waitS;split
 ·omega
 ·split <;> omega
theorem nextS_in (s:Int) (x:SigS) (h:0≤s∧s≤6):0≤nextS s x∧nextS s x≤6:=by
 have h1:=(next_follows s x).2
 have h2:rightI s=true:=by unfold rightI;simp;omega
 rw [h2] at h1
 unfold rightI at h1
 simpa using h1
theorem ES.sig_ok {s:ES} {k:Nat} (h:s.ok k) {x:EvS} (hx:x.ok) (o l:Bool):(s.sig x o l).ok:=
 ⟨hx.fl,s.holds_le,BS.room_le h.bs,h.rounds,Nat.le_trans (Pl.subS_le _ _) hx.now,waitS_le _ _ _ (h.c 4)⟩
theorem ES.count_ok {s:ES} {k:Nat} (h:s.ok k) (x:EvS):(s.count x).ok k:=
 {h with acked:=Pl.addS_le _ _,lost:=Pl.addS_le _ _}
theorem ES.mea_ok {s:ES} {k:Nat} (h:s.ok k) {x:EvS} (hx:x.ok) (hk:k≤900):(s.mea x).ok (k + 1):=by
 have hn:=h.fn
 have hb:s.n.n≤k + 1:=Nat.le_succ_of_le h.nn
 unfold ES.mea
 split
 ·refine {h with f:=FS.put_ok h.f hx.now (by omega),fn:=Nat.le_trans (FS.put_len _ _ _) (by omega),fx:=FS.put_x h.fx hx.rt,ya:=?_,yt:=?_,yn:=?_,nm:=?_,nn:=?_}
  ·dsimp only;split
   ·exact h.ya
   ·exact h.ya
  ·dsimp only;split
   ·exact mxs_lt h.yt (by simp;exact hx.sr)
   ·exact h.yt
  ·dsimp only;split
   ·exact h.yn
   ·exact h.yn
  ·unfold Ct.ackS;dsimp only;split
   ·exact hx.dl
   ·exact h.nm
  ·have:=Ct.ackS_n s.n (Pl.subS x.dl x.sd) x.dl
   have:=h.nn
   dsimp only;omega
 ·exact {h with f:=FS.to_ok h.f hx.now,fn:=Nat.le_trans (FS.to_len _ _) (by omega),fx:=FS.to_x h.fx,nn:=hb}
theorem ES.settle_ok {s:ES} {k:Nat} (h:s.ok k):s.settle.ok k:={h with acked:=Nat.zero_le _,lost:=Nat.zero_le _,rounds:=Pl.addS_le _ _}
theorem ES.pput_ok {s:ES} {k:Nat} (h:s.ok k) (o l:Bool):(s.pput o l).ok k:={h with p:=Pi.put_ok h.p (CY.best_le h.ya h.yt) o l}
theorem ES.yield_ok {s:ES} {k:Nat} (h:s.ok k) {x:EvS} (hx:x.ok):(s.yield x).ok k:=
 {h with bs:=by unfold ES.yield;dsimp only;split;exact BS.pull_ok h.bs hx.fl;exact BS.lose_ok h.bs hx.sd hx.sr}
theorem BS.short_ok {b:BS} (h:b.ok):b.short.ok:=⟨h.hi,Nat.le_refl _,Nat.le_refl _⟩
theorem ES.side_ok {s:ES} {k:Nat} (h:s.ok k) {now:Nat} (hn:now≤18446744073709551615) (t:Int):(s.side now t).ok k:=by
 have h1:=h.cwnd
 have h2:=h.kept
 unfold ES.side
 split
 ·exact {h with ended:=hn,cwnd:=by dsimp only;omega}
 ·split
  ·exact {h with kept:=h.cwnd}
  ·split
   ·exact {h with bs:=BS.short_ok h.bs}
   ·split
    ·refine {h with ya:=h.yt,yt:=Nat.zero_le _,yn:=?_}
     have:=Nat.mod_lt (s.y.n + 1) (show 0 < 18446744073709551616 by omega)
     show (s.y.n + 1) % 18446744073709551616≤_
     omega
    ·exact h
theorem ES.turn_ok {s:ES} {k:Nat} (h:s.ok k) {now:Nat} (hn:now≤18446744073709551615) {t:Int} (ht:0≤t∧t≤6):(s.turn now t).ok k:=by
 unfold ES.turn
 split
 ·exact h
 ·exact {ES.side_ok h hn t with st:=ht,began:=hn,rounds:=Nat.zero_le _}
theorem ES.push_ok {s:ES} {k:Nat} (h:s.ok k) (x:EvS):(s.push x).ok k:={h with bs:=BS.push_ok h.bs _}
theorem ES.open_le (s:ES) (ac:Nat):s.open ac≤72057594037927936:=Nat.min_le_right _ _
theorem ES.e3_ok {s:ES} {k:Nat} (h:s.ok k) {x:EvS} (hx:x.ok) (hk:k≤900):(s.e3 x).ok (k + 1):=by
 have:=ES.mea_ok (ES.count_ok h x) hx hk
 unfold ES.e3;split
 ·exact ES.settle_ok this
 ·exact this
theorem ES.e4_ok {s:ES} {k:Nat} (h:s.ok k) {x:EvS} (hx:x.ok) (hk:k≤900):(s.e4 x).ok (k + 1):=by
 have:=ES.e3_ok h hx hk
 unfold ES.e4;split
 ·exact ES.pput_ok this _ _
 ·exact this
theorem ES.e5_ok {s:ES} {k:Nat} (h:s.ok k) {x:EvS} (hx:x.ok) (hk:k≤900):(s.e5 x).ok (k + 1):=by
 have:=ES.e4_ok h hx hk
 unfold ES.e5;split
 ·exact ES.yield_ok this hx
 ·exact this
theorem ES.e6_ok {s:ES} {k:Nat} (h:s.ok k) {x:EvS} (hx:x.ok) (hk:k≤900):(s.e6 x).ok (k + 1):=by
 have h5:=ES.e5_ok h hx hk
 exact ES.turn_ok h5 hx.now (nextS_in _ _ h5.st)
theorem ES.e7_ok {s:ES} {k:Nat} (h:s.ok k) {x:EvS} (hx:x.ok) (hk:k≤900):(s.e7 x).ok (k + 1):=by
 have:=ES.e6_ok h hx hk
 unfold ES.e7;split
 ·exact ES.push_ok this _
 ·exact this
theorem ES.on_ok {s:ES} {k:Nat} (h:s.ok k) {x:EvS} (hx:x.ok) (hk:k≤900):(s.on x).ok (k + 1):=
 {ES.e7_ok h hx hk with cwnd:=Nat.le_trans (ES.open_le _ _) (by omega)}
def ES.new (c:Setup):ES:=⟨c,Pi.zero,BS.none,⟨c 3,0,true,[]⟩,⟨0,0,0⟩,Ct.zero,0,0,0,0,0,firstC c,0,0⟩
theorem ES.new_ok {c:Setup} (h:∀i,c i≤18446744073709551615):(ES.new c).ok 0:=
 ⟨h,⟨Nat.zero_le _,Nat.zero_le _⟩,BS.none_ok,⟨h 3,Nat.zero_le _,by simp [ES.new],by simp [ES.new]⟩,Nat.le_refl _,by simp [ES.new],Nat.zero_le _,Nat.zero_le _,Nat.zero_le _,Nat.zero_le _,Nat.le_refl _,⟨show (0:Int)≤0 by decide,show (0:Int)≤6 by decide⟩,Nat.zero_le _,Nat.zero_le _,Nat.zero_le _,Nat.zero_le _,firstC_le _,Nat.zero_le _,Nat.zero_le _⟩
end Go.Proofs.YteoepabmnbkabaaGreatDoor

set_option linter.unusedVariables false
namespace Go.Proofs.YteoepabmnbkabaaGreatDoor
open Go.RowKit Cf
def PL.fl (l:PL):Nat:=sumP 0 l.out
structure SN where
 c:CS
 L:PL
 t:TS
 a:RaS
 e:ES
 p:PS
 w:Nat
namespace SN
def new (c:Setup):SN:=⟨CS.zero,⟨[],0,c 2,0,false⟩,TS.zero,RaS.zero,ES.new c,PS.zero,0⟩
def isLost (s:SN) (p:Pk):Bool:=s.L.lostB s.c.t s.t.del s.t.lim p
def lostL (s:SN):List Pk:=s.L.out.filter s.isLost
def keptL (s:SN):List Pk:=s.L.out.filter fun p=>!s.isLost p
def loss (s:SN):SN:={s with L:={s.L with out:=s.keptL},w:=Pl.addS s.w (sumP 0 s.lostL),t:=if s.lostL≠[]∧s.keptL=[] then s.t.dbl else s.t}
def tell (s:SN) (now lost:Nat) (b:Bool):SN:=if b=true then {s with e:=s.e.on ⟨now,0,0,0,0,false,false,s.a.n,0,lost,s.L.fl⟩} else s
def size (s:SN):Nat:=min (s.e.c 0) s.w
def fits (s:SN):Bool:=decide (0 < s.w) && decide (Pl.addS s.L.fl s.size≤s.e.cwnd)
def goes (s:SN):Bool:=s.fits && s.p.takeB s.size
def stamp (s:SN):RaS:=s.a.stampS s.c.t s.L.fl
def pk (s:SN):Pk:=⟨s.L.next,s.size,s.c.t,s.stamp.first,s.stamp.n,s.stamp.last,decide (s.stamp.mark≠0)⟩
def go1 (s:SN):SN:={s with w:=s.w - s.size,p:=s.p.takeS s.size,a:=s.stamp,L:={s.L with out:=s.L.out ++ [s.pk],next:=s.L.next + 1}}
def gos:Nat→SN→SN × List Pk
 | 0,s=>(s,[])
 | k + 1,s=>if s.goes=true then ((gos k s.go1).1,s.pk :: (gos k s.go1).2) else (s,[])
def run (s:SN):SN × List Pk:=gos s.w s
def rest (s:SN):SN:=if s.w=0 then {s with a:=s.a.limit s.L.fl} else s
def tim (s:SN) (now:Nat):SN:={s with c:=s.c.toS now}
def pre (s:SN) (now:Nat):SN:=(s.tim now).loss.tell now (sumP 0 (s.tim now).lostL) (!(s.tim now).lostL.isEmpty)
def paced (s:SN) (now:Nat):SN:={s.pre now with p:=(s.pre now).p.tickS now (s.pre now).e.pace (s.pre now).e.quant}
def tickE (s:SN) (now:Nat):Int:=s.c.toE now
def tickS (s:SN) (now:Nat):SN:=if s.c.toE now=0 then (s.paced now).run.1.rest else s.tim now
def tickL (s:SN) (now:Nat):List Pk:=if s.c.toE now=0 then (s.paced now).run.2 else []
def writeE (s:SN) (n:Nat):Int:=s.c.countE n
def writeS (s:SN) (n:Nat):SN:={s with c:=s.c.countS n,w:=if s.c.countE n=0 then Pl.addS s.w n else s.w}
def ackE (s:SN) (now:Nat) (ok:Bool):Int:=if s.c.p=true then 3 else if now < s.c.t then 2 else if ok=true then s.c.toE now else 1
def acked (s:SN) (f:Pk→Bool):List Pk:=s.L.out.filter f
def took (s:SN) (f:Pk→Bool):SN:={s with L:={s.L with out:=s.L.out.filter (fun p=>!f p),top:=(s.acked f).foldl (fun t p=>max t p.n) s.L.top,topped:=s.L.topped || !(s.acked f).isEmpty}}
def sampled (s:SN) (now:Nat) (q:Pk) (l:List Pk):SN:={s with a:=s.a.ack now q l,t:=s.t.put (s.a.ackT now q l).rtt}
def told (s:SN) (now:Nat) (x:Smp) (ac lo:Nat):SN:={s with e:=s.e.on ⟨now,x.deliv,x.interval,x.rate,x.rtt,x.lim,true,s.a.n,ac,lo,s.L.fl⟩}
def ackG (s:SN) (now:Nat) (f:Pk→Bool):SN:=
 match s.acked f with
 | []=>s
 | q :: l=>(((s.took f).sampled now q l).loss).told now (s.a.ackT now q l) (sumP 0 (q :: l)) (sumP 0 ((s.took f).sampled now q l).lostL)
def ackS (s:SN) (now:Nat) (ok:Bool) (f:Pk→Bool):SN:=
 if s.c.p=true then s else if now < s.c.t then s else if ok=true then (if s.c.toE now=0 then (s.tim now).ackG now f else s.tim now) else s
def nextB (s:SN):Bool:=!s.c.p && s.fits && s.p.nextB s.size
def nextT (s:SN):Nat:=if (!s.c.p && s.fits)=true then s.p.nextT s.size else 0
end SN
def totS (l:List Pk):Nat:=(l.map Pk.size).sum
theorem totS_nil:totS []=0:=rfl
theorem totS_cons (p:Pk) (l:List Pk):totS (p :: l)=p.size + totS l:=by simp [totS]
theorem totS_append (l m:List Pk):totS (l ++ m)=totS l + totS m:=by simp [totS]
theorem sumP_tot:∀(l:List Pk) (n:Nat),n≤18446744073709551615→sumP n l=min (n + totS l) 18446744073709551615
 | [],n,h=>by rw [totS_nil];show n=_;omega
 | p :: l,n,h=>by
   show sumP (Pl.addS n p.size) l=_
   rw [sumP_tot l _ (Pl.addS_le _ _),totS_cons]
   unfold Pl.addS
   omega
theorem totS_filter (f:Pk→Bool):∀l:List Pk,totS (l.filter f) + totS (l.filter fun p=>!f p)=totS l
 | []=>rfl
 | p :: l=>by
   have:=totS_filter f l
   rw [List.filter_cons,List.filter_cons]
   cases f p <;> simp [totS_cons] <;> omega
theorem totS_pos {l:List Pk} (h:∀p∈l,1≤p.size) (hl:l≠[]):1≤totS l:=by
 cases l with
 | nil=>exact absurd rfl hl
 | cons p l=>rw [totS_cons];have:=h p List.mem_cons_self;omega
theorem totS_zero {l:List Pk} (h:∀p∈l,1≤p.size) (h0:totS l=0):l=[]:=by
 cases l with
 | nil=>rfl
 | cons p l=>rw [totS_cons] at h0;have:=h p List.mem_cons_self;omega
end Go.Proofs.YteoepabmnbkabaaGreatDoor

set_option linter.unusedVariables false
namespace Go.Proofs.YteoepabmnbkabaaGreatDoor
open Go.RowKit Cf
theorem ES.mea_c (s:ES) (x:EvS):(s.mea x).c=s.c:=by unfold ES.mea;split <;> rfl
theorem ES.e3_c (s:ES) (x:EvS):(s.e3 x).c=s.c:=by
 unfold ES.e3;split
 ·exact ES.mea_c _ x
 ·exact ES.mea_c _ x
theorem ES.e4_c (s:ES) (x:EvS):(s.e4 x).c=s.c:=by
 unfold ES.e4;split
 ·exact ES.e3_c s x
 ·exact ES.e3_c s x
theorem ES.e5_c (s:ES) (x:EvS):(s.e5 x).c=s.c:=by
 unfold ES.e5;split
 ·exact ES.e4_c s x
 ·exact ES.e4_c s x
theorem ES.side_c (s:ES) (n:Nat) (t:Int):(s.side n t).c=s.c:=by
 unfold ES.side;split
 ·rfl
 ·split
  ·rfl
  ·split
   ·rfl
   ·split <;> rfl
theorem ES.turn_c (s:ES) (n:Nat) (t:Int):(s.turn n t).c=s.c:=by
 unfold ES.turn;split
 ·rfl
 ·exact ES.side_c s n t
theorem ES.e6_c (s:ES) (x:EvS):(s.e6 x).c=s.c:=(ES.turn_c _ _ _).trans (ES.e5_c s x)
theorem ES.e7_c (s:ES) (x:EvS):(s.e7 x).c=s.c:=by
 unfold ES.e7;split
 ·exact ES.e6_c s x
 ·exact ES.e6_c s x
theorem ES.on_c (s:ES) (x:EvS):(s.on x).c=s.c:=ES.e7_c s x
theorem right_mss {c:Setup} (h:rightC c=true):1≤c 0∧c 0≤65535∧4≤c 1∧c 1≤1000:=by
 have h0:fits c 0=true:=by
  unfold rightC at h
  exact List.all_eq_true.1 h 0 (by decide)
 have h1:fits c 1=true:=by
  unfold rightC at h
  exact List.all_eq_true.1 h 1 (by decide)
 unfold fits at h0 h1
 have a0:=of_decide_eq_true h0
 have a1:=of_decide_eq_true h1
 have b0:least 0=1∧most 0=65535∧least 1=4∧most 1=1000:=by decide
 omega
theorem leastC_eq {c:Setup} (h:rightC c=true):leastC c=4 * c 0:=by
 have:=right_mss h
 unfold leastC Pl.mulS;omega
theorem firstC_eq {c:Setup} (h:rightC c=true):firstC c=c 1 * c 0∧4 * c 0≤c 1 * c 0∧c 1 * c 0≤65535000:=by
 have h1:=right_mss h
 have h2:4 * c 0≤c 1 * c 0:=Nat.mul_le_mul_right _ h1.2.2.1
 have h3:c 1 * c 0≤1000 * 65535:=Nat.mul_le_mul h1.2.2.2 h1.2.1
 unfold firstC Pl.mulS
 omega
structure Free (m:Nat) (s:ES):Prop where
 cl:m * 4≤s.cwnd
 pl:m * 4≤s.pace
 ql:m * 2≤s.quant
 qm:s.quant≤m * 64
 pm:s.pace≤1099511627776
 cm:s.cwnd≤72057594037927936
 st:0≤s.st∧s.st≤6
theorem on_free {s:ES} {k:Nat} (ho:s.ok k) (hr:rightC s.c=true) {x:EvS} (hx:x.ok) (hk:k≤900):Free (s.c 0) (s.on x):=by
 have o1:=ES.on_ok ho hx hk
 have hc:=ES.on_c s x
 have hm:=right_mss hr
 have hl:=leastC_eq hr
 have hcw:(s.on x).cwnd=min (max ((s.e7 x).o3 x.ac) (leastC (s.e7 x).c)) 72057594037927936:=rfl
 rw [ES.e7_c,hl] at hcw
 generalize s.on x=t at *
 have hp:t.pace=min (max (paceG (stG t.st) (t.bs.limit t.rate)) (leastC t.c)) 1099511627776:=rfl
 rw [hc,hl] at hp
 have hq:t.quant=min (max (t.pace / 1000) (Pl.mulS 2 (t.c 0))) (Pl.mulS 64 (t.c 0)):=rfl
 rw [hc] at hq
 unfold Pl.mulS at hq
 exact ⟨by omega,by omega,by omega,by omega,by omega,by omega,o1.st⟩
structure Grow (c:Setup) (s:ES):Prop where
 c:s.c=c
 st:s.st=0
 p:s.p=Pi.zero
 bs:s.bs=BS.none
 f:s.f.l=[]
 y:s.y=⟨0,0,0⟩
 lo:s.lost=0
 cl:4 * s.c 0≤s.cwnd
theorem Grow.new {c:Setup} (h:rightC c=true):Grow c (ES.new c):=by
 have:=firstC_eq h
 exact ⟨rfl,rfl,rfl,rfl,rfl,rfl,rfl,by show 4 * c 0≤firstC c;omega⟩
theorem Grow.pace {c:Setup} {s t:ES} (h:Grow c s) (k:Grow c t):s.pace=t.pace:=by
 have e:∀u,Grow c u→u.pace=min (max (paceG (stG 0) (BS.none.limit (Pl.shareS (firstC c) 1000000 1000))) (leastC c)) 1099511627776:=fun u q=>by
  have q1:u.trip=1000:=by unfold ES.trip FS.some;rw [q.f];rfl
  have q2:u.rate=Pl.shareS (firstC c) 1000000 1000:=by unfold ES.rate;rw [q.y,q1,q.c];rfl
  unfold ES.pace;rw [q.st,q.bs,q2,q.c]
 rw [e s h,e t k]
theorem defC_le:∀i,defC i≤18446744073709551615:=by decide
theorem defC_right:rightC defC=true:=by decide
end Go.Proofs.YteoepabmnbkabaaGreatDoor

set_option linter.unusedVariables false
namespace Go.Proofs.YteoepabmnbkabaaGreatDoor
open Go.RowKit Cf
theorem new_free {c:Setup} (h:rightC c=true):Free (c 0) (ES.new c):=by
 have hf:=firstC_eq h
 have hm:=right_mss h
 have hl:=leastC_eq h
 have hcw:(ES.new c).cwnd=firstC c:=rfl
 have hst:(ES.new c).st=0:=rfl
 have hc:(ES.new c).c=c:=rfl
 generalize ES.new c=t at *
 have hp:t.pace=min (max (paceG (stG t.st) (t.bs.limit t.rate)) (leastC t.c)) 1099511627776:=rfl
 rw [hc,hl] at hp
 have hq:t.quant=min (max (t.pace / 1000) (Pl.mulS 2 (t.c 0))) (Pl.mulS 64 (t.c 0)):=rfl
 rw [hc] at hq
 unfold Pl.mulS at hq
 exact ⟨by omega,by omega,by omega,by omega,by omega,by omega,by rw [hst];decide⟩
structure SN.ok (c:Setup) (k m d:Nat) (s:SN):Prop where
 ec:s.e.c=c
 e:s.e.ok k
 fr:Free (c 0) s.e
 cl:s.c.ok
 t:s.t.ok
 a:s.a.ok
 pr:s.p.r≤1099511627776
 pq:s.p.q≤4194240
 pt:s.p.t≤s.c.t
 ps:s.p.s≤s.p.q * 1000000
 re:s.L.reorder=c 2
 pk:∀p∈s.L.out,1≤p.size∧p.size≤c 0∧p.sent≤s.c.t∧p.n < s.L.next
 st:∀p∈s.L.out,p.st.ok
 few:s.L.next≤m
 top:s.L.top≤s.L.next
 sum:s.w + totS s.L.out + d=s.c.n
theorem SN.ok.pok {c:Setup} {k m d:Nat} {s:SN} (h:s.ok c k m d):s.p.ok:=by
 have h1:=h.pr;have h2:=h.pq;have h3:=h.pt;have h4:=h.ps;have h5:=h.cl.1
 unfold PS.ok;omega
theorem SN.ok.small {c:Setup} {k m d:Nat} {s:SN} (h:s.ok c k m d):s.w + totS s.L.out≤72057594037927936:=by
 have:=h.sum;have:=h.cl.2;omega
theorem SN.ok.fl {c:Setup} {k m d:Nat} {s:SN} (h:s.ok c k m d):s.L.fl=totS s.L.out:=by
 have:=h.small
 unfold PL.fl;rw [sumP_tot _ _ (by omega)];omega
theorem SN.new_ok {c:Setup} (h:rightC c=true) (hc:∀i,c i≤18446744073709551615):(SN.new c).ok c 0 0 0 where
 ec:=rfl
 e:=ES.new_ok hc
 fr:=new_free h
 cl:=⟨Nat.zero_le _,Nat.zero_le _⟩
 t:=TS.zero_ok
 a:=⟨Nat.zero_le _,Nat.zero_le _,Nat.zero_le _,Nat.zero_le _⟩
 pr:=Nat.zero_le _
 pq:=Nat.zero_le _
 pt:=Nat.zero_le _
 ps:=Nat.zero_le _
 re:=rfl
 pk:=fun p hp=>by cases hp
 st:=fun p hp=>by cases hp
 few:=Nat.le_refl _
 top:=Nat.le_refl _
 sum:=rfl
theorem SN.write_ok {c:Setup} {k m d:Nat} {s:SN} (h:s.ok c k m d) (n:Nat):(s.writeS n).ok c k m d:=by
 have hc:=CS.count_ok h.cl n
 have ht:(s.c.countS n).t=s.c.t:=by unfold CS.countS;split;rfl;split <;> rfl
 have hn:(if s.c.countE n=0 then Pl.addS s.w n else s.w) + totS s.L.out + d=(s.c.countS n).n:=by
  have h1:=h.sum;have h2:=h.cl.2
  unfold CS.countE CS.countS
  by_cases q:s.c.p=true
  ·rw [if_pos q,if_pos q,if_neg (by decide)];exact h1
  ·rw [if_neg q,if_neg q]
   by_cases q2:72057594037927936 < s.c.n + n
   ·rw [if_pos q2,if_pos q2,if_neg (by decide)];exact h1
   ·rw [if_neg q2,if_neg q2,if_pos rfl]
    unfold Pl.addS
    show _=s.c.n + n
    omega
 exact {h with cl:=hc,pt:=by show s.p.t≤(s.c.countS n).t;rw [ht];exact h.pt,pk:=fun p hp=>by show _∧_∧p.sent≤(s.c.countS n).t∧_;rw [ht];exact h.pk p hp,sum:=hn}
theorem SN.loss_w {c:Setup} {k m d:Nat} {s:SN} (h:s.ok c k m d):s.loss.w=s.w + totS s.lostL∧s.loss.w + totS s.loss.L.out=s.w + totS s.L.out∧sumP 0 s.lostL=totS s.lostL:=by
 have h1:=totS_filter s.isLost s.L.out
 have h2:=h.small
 have e:sumP 0 s.lostL=totS s.lostL:=by rw [sumP_tot _ _ (by omega)];unfold SN.lostL;omega
 have e2:s.loss.w=Pl.addS s.w (sumP 0 s.lostL):=rfl
 have e3:s.loss.L.out=s.keptL:=rfl
 rw [e2,e3,e]
 unfold Pl.addS SN.lostL SN.keptL
 omega
theorem SN.loss_ok {c:Setup} {k m d:Nat} {s:SN} (h:s.ok c k m d):s.loss.ok c k m d:=by
 obtain ⟨_,hs,_⟩:=SN.loss_w h
 have hsub:∀p,p∈s.keptL→p∈s.L.out:=fun p hp=>(List.mem_filter.1 hp).1
 have ht:s.loss.t.ok:=by
  show (if s.lostL≠[]∧s.keptL=[] then s.t.dbl else s.t).ok
  split
  ·exact TS.dbl_ok h.t
  ·exact h.t
 exact {h with t:=ht,pk:=fun p hp=>h.pk p (hsub p hp),st:=fun p hp=>h.st p (hsub p hp),sum:=by have:=h.sum;show s.loss.w + totS s.loss.L.out + d=s.c.n;omega}
theorem SN.fl_le (s:SN):s.L.fl≤18446744073709551615:=by unfold PL.fl;exact sumP_le (Nat.zero_le _)
theorem SN.tell_ok {c:Setup} {k m d:Nat} {s:SN} (h:s.ok c k m d) (hr:rightC c=true) (hk:k≤900) {now lost:Nat} (hn:now≤18446744073709551615) (hl:lost≤18446744073709551615) (b:Bool):(s.tell now lost b).ok c (k + 1) m d:=by
 unfold SN.tell
 have hx:EvS.ok ⟨now,0,0,0,0,false,false,s.a.n,0,lost,s.L.fl⟩:=⟨hn,Nat.zero_le _,Nat.zero_le _,Nat.zero_le _,Nat.zero_le _,h.a.n,Nat.zero_le _,hl,s.fl_le⟩
 split
 ·exact {h with ec:=(ES.on_c _ _).trans h.ec,e:=ES.on_ok h.e hx hk,fr:=by have:=on_free h.e (by rw [h.ec];exact hr) hx hk;rw [h.ec] at this;exact this}
 ·exact {h with e:={h.e with fn:=Nat.le_succ_of_le h.e.fn,nn:=Nat.le_succ_of_le h.e.nn}}
theorem SN.size_pos {c:Setup} {k m d:Nat} {s:SN} (h:s.ok c k m d) (hr:rightC c=true) (hf:s.fits=true):1≤s.size∧s.size≤c 0∧s.size≤s.w∧s.L.fl + s.size≤s.e.cwnd:=by
 have hm:=right_mss hr
 have h1:=h.small
 have h2:=h.fl
 unfold SN.fits at hf
 simp only [Bool.and_eq_true,decide_eq_true_eq] at hf
 have hs:s.size=min (c 0) s.w:=by unfold SN.size;rw [h.ec]
 unfold Pl.addS at hf
 omega
theorem SN.go_ok {c:Setup} {k m d:Nat} {s:SN} (h:s.ok c k m d) (hr:rightC c=true) (hg:s.goes=true):s.go1.ok c k (m + 1) d∧s.go1.w + totS s.go1.L.out=s.w + totS s.L.out∧s.go1.L.fl=s.L.fl + s.size∧s.go1.p.s + s.size * 1000000=s.p.s:=by
 unfold SN.goes at hg
 simp only [Bool.and_eq_true] at hg
 obtain ⟨h1,h2,h3,h4⟩:=SN.size_pos h hr hg.1
 have hm:=right_mss hr
 have hw:s.go1.w=s.w - s.size:=rfl
 have ho:s.go1.L.out=s.L.out ++ [s.pk]:=rfl
 have hz:totS [s.pk]=s.size:=by rw [totS_cons];rfl
 have hsum:s.go1.w + totS s.go1.L.out=s.w + totS s.L.out:=by rw [hw,ho,totS_append,hz];omega
 have hfl:s.go1.L.fl=s.L.fl + s.size:=by
  rw [h.fl]
  unfold PL.fl
  have:=h.small
  rw [ho,sumP_tot _ _ (by omega),totS_append,hz]
  omega
 have hmul:Pl.mulS s.size 1000000=s.size * 1000000:=by unfold Pl.mulS;omega
 have htk:s.size * 1000000≤s.p.s:=by
  have:=hg.2
  unfold PS.takeB at this
  rw [hmul] at this
  exact of_decide_eq_true this
 have hp:s.go1.p=⟨s.p.r,s.p.q,s.p.t,s.p.s - s.size * 1000000⟩:=by
  show s.p.takeS s.size=_
  unfold PS.takeS
  rw [hmul,if_pos htk]
 have ha:s.stamp.ok:=RaS.stamp_ok h.a (Nat.le_trans h.cl.1 (by omega)) _
 have hpk:∀p∈s.go1.L.out,(1≤p.size∧p.size≤c 0∧p.sent≤s.c.t∧p.n < s.L.next + 1):=by
  intro p hp
  rw [ho] at hp
  rcases List.mem_append.1 hp with q | q
  ·have:=h.pk p q;omega
  ·obtain rfl:p=s.pk:=by simpa using q
   exact ⟨h1,h2,Nat.le_refl _,Nat.lt_succ_self _⟩
 refine ⟨?_,hsum,hfl,by rw [hp];show s.p.s - _ + _=_;omega⟩
 have hct:s.c.t≤18446744073709551615:=Nat.le_trans h.cl.1 (by omega)
 have hst:∀p∈s.go1.L.out,p.st.ok:=by
  intro p hp
  rw [ho] at hp
  rcases List.mem_append.1 hp with q | q
  ·exact h.st p q
  ·obtain rfl:p=s.pk:=by simpa using q
   exact ⟨hct,ha.first,ha.n,ha.last⟩
 have hs2:s.go1.w + totS s.go1.L.out + d=s.c.n:=by have:=h.sum;omega
 exact {ec:=h.ec,e:=h.e,fr:=h.fr,cl:=h.cl,t:=h.t,a:=ha,pr:=by rw [hp];exact h.pr,pq:=by rw [hp];exact h.pq,pt:=by rw [hp];exact h.pt,ps:=by rw [hp];exact Nat.le_trans (Nat.sub_le _ _) h.ps,re:=h.re,pk:=hpk,st:=hst,few:=Nat.succ_le_succ h.few,top:=Nat.le_succ_of_le h.top,sum:=hs2}
structure SN.Gone (c:Setup) (s:SN) (r:SN × List Pk):Prop where
 ck:r.1.c=s.c
 e:r.1.e=s.e
 t:r.1.t=s.t
 pr:r.1.p.r=s.p.r
 pq:r.1.p.q=s.p.q
 pt:r.1.p.t=s.p.t
 re:r.1.L.reorder=s.L.reorder
 top:r.1.L.top=s.L.top
 topped:r.1.L.topped=s.L.topped
 out:r.1.L.out=s.L.out ++ r.2
 next:r.1.L.next=s.L.next + r.2.length
 w:r.1.w + totS r.2=s.w
 fl:r.1.L.fl=s.L.fl + totS r.2
 cr:r.1.p.s + totS r.2 * 1000000=s.p.s
 size:∀p∈r.2,1≤p.size∧p.size≤c 0∧p.sent=s.c.t
 num:∀i,i < r.2.length→(r.2.getD i Itm.z).n=s.L.next + i
 len:r.2.length * c 0≤totS r.2 + c 0
 le:r.2≠[]→r.1.L.fl≤s.e.cwnd
theorem SN.Gone.none (c:Setup) (s:SN):SN.Gone c s (s,[]):=
 ⟨rfl,rfl,rfl,rfl,rfl,rfl,rfl,rfl,rfl,by simp,rfl,rfl,rfl,by simp [totS_nil],by simp,by simp,by simp,fun h=>absurd rfl h⟩
theorem SN.goes_w {s:SN} (h:s.goes=true):0 < s.w:=by
 unfold SN.goes SN.fits at h
 simp only [Bool.and_eq_true,decide_eq_true_eq] at h
 exact h.1.1
theorem SN.gos_zero {s:SN} (h:s.w=0) (fuel:Nat):SN.gos fuel s=(s,[]):=by
 cases fuel with
 | zero=>rfl
 | succ n=>
   unfold SN.gos
   rw [if_neg]
   intro q
   have:=SN.goes_w q
   omega
theorem takeS_rqt (p:PS) (x:Nat):(p.takeS x).r=p.r∧(p.takeS x).q=p.q∧(p.takeS x).t=p.t:=by unfold PS.takeS;split <;> exact ⟨rfl,rfl,rfl⟩
set_option maxRecDepth 100000 in
theorem SN.gos_gone {c:Setup} {k d:Nat} (hr:rightC c=true):∀(fuel:Nat) {m:Nat} {s:SN},s.ok c k m d→
  SN.Gone c s (SN.gos fuel s)∧(SN.gos fuel s).1.ok c k (m + (SN.gos fuel s).2.length) d
 | 0,m,s,h=>⟨SN.Gone.none c s,h⟩
 | fuel + 1,m,s,h=>by
   by_cases hg:s.goes=true
   ·have e:SN.gos (fuel + 1) s=((SN.gos fuel s.go1).1,s.pk :: (SN.gos fuel s.go1).2):=by rw [SN.gos,if_pos hg]
    rw [e]
    obtain ⟨o1,g1,g2,g3⟩:=SN.go_ok h hr hg
    obtain ⟨h1,h2,h3,h4⟩:=SN.size_pos h hr (by unfold SN.goes at hg;simp only [Bool.and_eq_true] at hg;exact hg.1)
    obtain ⟨G,O⟩:=SN.gos_gone hr fuel o1
    have hz:s.go1.w=0→SN.gos fuel s.go1=(s.go1,[]):=fun q=>SN.gos_zero q fuel
    generalize SN.gos fuel s.go1=r at *
    obtain ⟨t1,t2,t3⟩:=takeS_rqt s.p s.size
    have hp:s.go1.p=s.p.takeS s.size:=rfl
    have hw:s.go1.w=s.w - s.size:=rfl
    have hpk:s.pk.size=s.size:=rfl
    have hs:s.size=min (c 0) s.w:=by unfold SN.size;rw [h.ec]
    refine ⟨⟨G.ck,G.e,G.t,by rw [G.pr,hp,t1],by rw [G.pq,hp,t2],by rw [G.pt,hp,t3],G.re,G.top,G.topped,?_,?_,?_,?_,?_,?_,?_,?_,?_⟩,?_⟩
    ·rw [G.out];show (s.L.out ++ [s.pk]) ++ r.2=_;simp
    ·rw [G.next,List.length_cons];show s.L.next + 1 + _=_;omega
    ·have:=G.w;show r.1.w + totS (s.pk :: r.2)=s.w;rw [totS_cons,hpk];omega
    ·show r.1.L.fl=s.L.fl + totS (s.pk :: r.2);rw [G.fl,g2,totS_cons,hpk];omega
    ·have g4:=G.cr
     show r.1.p.s + totS (s.pk :: r.2) * 1000000=s.p.s
     rw [totS_cons,hpk,← g3,← g4]
     generalize totS r.2=T
     generalize r.1.p.s=A
     generalize s.size=B
     omega
    ·intro p hp
     rcases List.mem_cons.1 hp with rfl | q
     ·exact ⟨h1,h2,rfl⟩
     ·exact G.size p q
    ·intro i hi
     cases i with
     | zero=>rfl
     | succ i=>
       have:=G.num i (by simpa using hi)
       have e2:(s.pk :: r.2).getD (i + 1) Itm.z=r.2.getD i Itm.z:=rfl
       rw [e2,this]
       show s.L.next + 1 + i=_
       omega
    ·rw [List.length_cons,totS_cons,hpk,Nat.add_mul,Nat.one_mul]
     have:=G.len
     by_cases q:s.size=c 0
     ·omega
     ·have h0:s.go1.w=0:=by omega
      rw [hz h0]
      simp [totS_nil]
    ·intro _
     by_cases q:r.2=[]
     ·rw [G.fl,g2,q,totS_nil];omega
     ·exact G.le q
    ·have e3:m + (s.pk :: r.2).length=m + 1 + r.2.length:=by rw [List.length_cons];omega
     rw [e3];exact O
   ·have e:SN.gos (fuel + 1) s=(s,[]):=by rw [SN.gos,if_neg hg]
    rw [e]
    exact ⟨SN.Gone.none c s,h⟩
theorem SN.to_ok {c:Setup} {k m d:Nat} {s:SN} (h:s.ok c k m d) (now:Nat):(s.tim now).ok c k m d:=by
 have hc:=CS.to_ok h.cl now
 have ht:s.c.t≤(s.c.toS now).t∧(s.c.toS now).n=s.c.n:=by
  unfold CS.toS
  split
  ·exact ⟨Nat.le_refl _,rfl⟩
  ·split
   ·exact ⟨Nat.le_refl _,rfl⟩
   ·split
    ·exact ⟨Nat.le_refl _,rfl⟩
    ·exact ⟨by dsimp;omega,rfl⟩
 exact {h with cl:=hc,pt:=Nat.le_trans h.pt ht.1,pk:=fun p hp=>⟨(h.pk p hp).1,(h.pk p hp).2.1,Nat.le_trans (h.pk p hp).2.2.1 ht.1,(h.pk p hp).2.2.2⟩,sum:=by have:=h.sum;show s.w + totS s.L.out + d=(s.c.toS now).n;omega}
theorem CS.to_yes {s:CS} {now:Nat} (h:s.toE now=0):s.toS now=⟨now,s.n,false⟩∧s.t≤now∧now≤4398046511104∧s.p=false:=by
 unfold CS.toE at h
 unfold CS.toS
 split at h
 ·exact absurd h (by decide)
 ·rename_i hp
  rw [if_neg hp]
  split at h
  ·exact absurd h (by decide)
  ·rename_i h1
   rw [if_neg h1]
   split at h
   ·exact absurd h (by decide)
   ·rename_i h2
    rw [if_neg h2]
    have:s.p=false:=by simpa using hp
    exact ⟨by rw [this],by omega,by omega,this⟩
theorem SN.pre_ok {c:Setup} {k m d:Nat} {s:SN} (h:s.ok c k m d) (hr:rightC c=true) (hk:k≤900) (now:Nat) (hn:now≤18446744073709551615):(s.pre now).ok c (k + 1) m d∧(s.pre now).w + totS (s.pre now).L.out=s.w + totS s.L.out∧(s.pre now).c=s.c.toS now∧(s.pre now).p=s.p∧(s.pre now).L.next=s.L.next:=by
 have h1:=SN.to_ok h now
 obtain ⟨_,h3,h4⟩:=SN.loss_w h1
 have hl:sumP 0 (s.tim now).lostL≤18446744073709551615:=sumP_le (Nat.zero_le _)
 have h5:=SN.tell_ok (SN.loss_ok h1) hr hk hn hl (!(s.tim now).lostL.isEmpty)
 refine ⟨h5,?_,?_,?_,?_⟩
 all_goals
  unfold SN.pre SN.tell
  split
  all_goals first | exact h3 | rfl
theorem SN.paced_ok {c:Setup} {k m d:Nat} {s:SN} (h:s.ok c k m d) (hr:rightC c=true) (hk:k≤900) {now:Nat} (ht:s.c.toE now=0):(s.paced now).ok c (k + 1) m d∧(s.paced now).w + totS (s.paced now).L.out=s.w + totS s.L.out∧(s.paced now).c=⟨now,s.c.n,false⟩∧
  (s.paced now).p.r=(s.paced now).e.pace∧(s.paced now).p.q=(s.paced now).e.quant∧(s.paced now).p.t=now∧(s.paced now).L.next=s.L.next:=by
 obtain ⟨e1,e2,e3,e4⟩:=CS.to_yes ht
 obtain ⟨h1,h2,h3,h4,h5⟩:=SN.pre_ok h hr hk now (by omega)
 rw [e1] at h3
 have hp:(s.paced now).p=⟨(s.pre now).e.pace,(s.pre now).e.quant,now,min (Pl.addS (s.pre now).p.s (Pl.mulS (s.pre now).e.pace (now - (s.pre now).p.t))) (Pl.mulS (s.pre now).e.quant 1000000)⟩:=by
  show (s.pre now).p.tickS now (s.pre now).e.pace (s.pre now).e.quant=_
  unfold PS.tickS
  rw [if_neg]
  have:=h.pt
  rw [h4];omega
 have hm:=right_mss hr
 have hq:=h1.fr.qm
 refine ⟨{h1 with pr:=by rw [hp];exact h1.fr.pm,pq:=by rw [hp];show (s.pre now).e.quant≤_;omega,pt:=by rw [hp];show now≤(s.pre now).c.t;rw [h3];exact Nat.le_refl _,ps:=by rw [hp];show min _ _≤(s.pre now).e.quant * 1000000;unfold Pl.mulS;omega},h2,h3,by rw [hp];rfl,by rw [hp];rfl,by rw [hp],h5⟩
end Go.Proofs.YteoepabmnbkabaaGreatDoor

set_option linter.unusedVariables false
namespace Go.Proofs.YteoepabmnbkabaaGreatDoor
open Go.RowKit Cf
theorem SN.ok.mono {c:Setup} {k k' m m' d:Nat} {s:SN} (h:s.ok c k m d) (hk:k≤k') (hm:m≤m'):s.ok c k' m' d:=
 {h with e:={h.e with fn:=Nat.le_trans h.e.fn hk,nn:=Nat.le_trans h.e.nn hk},few:=Nat.le_trans h.few hm}
theorem SN.rest_ok {c:Setup} {k m d:Nat} {s:SN} (h:s.ok c k m d):s.rest.ok c k m d:=by
 unfold SN.rest
 split
 ·exact {h with a:=RaS.limit_ok h.a _}
 ·exact h
theorem SN.rest_eq (s:SN):s.rest.c=s.c∧s.rest.L=s.L∧s.rest.t=s.t∧s.rest.e=s.e∧s.rest.p=s.p∧s.rest.w=s.w:=by
 unfold SN.rest;split <;> exact ⟨rfl,rfl,rfl,rfl,rfl,rfl⟩
theorem SN.tick_no {s:SN} {now:Nat} (h:s.c.toE now≠0):s.tickS now=s.tim now∧s.tickL now=[]:=by
 unfold SN.tickS SN.tickL
 rw [if_neg h,if_neg h]
 exact ⟨rfl,rfl⟩
structure SN.Ticked (c:Setup) (s:SN) (now:Nat) (r:SN) (l:List Pk):Prop where
 ck:r.c=⟨now,s.c.n,false⟩
 sum:r.w + totS r.L.out=s.w + totS s.L.out
 next:r.L.next=s.L.next + l.length
 pr:r.p.r=r.e.pace
 pq:r.p.q=r.e.quant
 pt:r.p.t=now
 all:totS l≤r.e.quant
 size:∀p∈l,1≤p.size∧p.size≤c 0∧p.sent=now
 num:∀i,i < l.length→(l.getD i Itm.z).n=s.L.next + i
 len:l.length≤65
 le:l≠[]→r.L.fl≤r.e.cwnd
 mem:∀p∈l,p∈r.L.out
set_option maxRecDepth 100000 in
theorem SN.tick_yes {c:Setup} {k m d:Nat} {s:SN} (h:s.ok c k m d) (hr:rightC c=true) (hk:k≤900) {now:Nat} (ht:s.c.toE now=0):
  SN.Ticked c s now (s.tickS now) (s.tickL now)∧(s.tickS now).ok c (k + 1) (m + 65) d:=by
 obtain ⟨o1,s1,c1,r1,q1,t1,n1⟩:=SN.paced_ok h hr hk ht
 have e1:s.tickS now=(s.paced now).run.1.rest:=by unfold SN.tickS;rw [if_pos ht]
 have e2:s.tickL now=(s.paced now).run.2:=by unfold SN.tickL;rw [if_pos ht]
 rw [e1,e2]
 clear e1 e2
 generalize s.paced now=x at *
 obtain ⟨G,O⟩:=SN.gos_gone hr x.w o1
 have er:x.run=SN.gos x.w x:=rfl
 rw [← er] at G O
 generalize x.run=r at *
 obtain ⟨a1,a2,a3,a4,a5,a6⟩:=SN.rest_eq r.1
 have O2:=SN.rest_ok O
 have hm:=right_mss hr
 have hq:totS r.2≤x.e.quant:=by
  have h1:=G.cr
  have h2:=o1.ps
  rw [q1] at h2
  generalize totS r.2=T at *
  generalize r.1.p.s=A at *
  generalize x.p.s=B at *
  generalize x.e.quant=Q at *
  omega
 have hqm:=o1.fr.qm
 have hlen:r.2.length≤65:=by
  have h1:=G.len
  have h2:r.2.length * c 0≤65 * c 0:=by omega
  exact Nat.le_of_mul_le_mul_right h2 hm.1
 refine ⟨⟨by rw [a1,G.ck,c1],?_,by rw [a2,G.next,n1],by rw [a5,a4,G.pr,G.e,r1],by rw [a5,a4,G.pq,G.e,q1],by rw [a5,G.pt,t1],by rw [a4,G.e];exact hq,fun p hp=>?_,fun i hi=>?_,hlen,fun hne=>by rw [a2,a4,G.e];exact G.le hne,fun p hp=>by rw [a2,G.out];exact List.mem_append_right _ hp⟩,O2.mono (Nat.le_refl _) (by omega)⟩
 ·rw [a6,a2,G.out,totS_append]
  have:=G.w
  omega
 ·have:=G.size p hp
  rw [c1] at this
  exact this
 ·rw [← n1];exact G.num i hi
theorem foldl_top (l:List Pk):∀(t b:Nat),t≤b→(∀p∈l,p.n≤b)→l.foldl (fun t p=>max t p.n) t≤b:=by
 induction l with
 | nil=>intro t b h _;exact h
 | cons p l ih=>intro t b h hl;exact ih _ b (by have:=hl p List.mem_cons_self;show max t p.n≤b;omega) (fun q hq=>hl q (List.mem_cons_of_mem _ hq))
theorem SN.took_ok {c:Setup} {k m d:Nat} {s:SN} (h:s.ok c k m d) (f:Pk→Bool):(s.took f).ok c k m (d + totS (s.acked f))∧(s.took f).w + totS (s.took f).L.out + totS (s.acked f)=s.w + totS s.L.out:=by
 have h1:=totS_filter f s.L.out
 have e1:(s.took f).L.out=s.L.out.filter (fun p=>!f p):=rfl
 have e2:(s.took f).w=s.w:=rfl
 have hs:(s.took f).w + totS (s.took f).L.out + totS (s.acked f)=s.w + totS s.L.out:=by
  rw [e1,e2];unfold SN.acked;omega
 refine ⟨{h with pk:=fun p hp=>h.pk p (List.mem_filter.1 hp).1,st:=fun p hp=>h.st p (List.mem_filter.1 hp).1,top:=?_,sum:=?_},hs⟩
 ·exact foldl_top _ _ _ h.top (fun p hp=>Nat.le_of_lt (h.pk p (List.mem_filter.1 hp).1).2.2.2)
 ·have:=h.sum
  show (s.took f).w + totS (s.took f).L.out + (d + totS (s.acked f))=s.c.n
  omega
theorem SN.u64 {c:Setup} {k m d:Nat} {s:SN} (h:s.ok c k m d) (hr:rightC c=true) (hm:m≤100000) {p:Pk} (hp:p∈s.L.out):p.u64:=by
 have h1:=h.pk p hp
 have h2:=h.few
 have h3:=right_mss hr
 exact ⟨by omega,by omega,h.st p hp⟩
theorem SN.sampled_ok {c:Setup} {k m d:Nat} {s:SN} (h:s.ok c k m d) {now:Nat} (hn:now≤18446744073709551615) {q:Pk} {l:List Pk} (hq:∀p∈q :: l,p.u64):(s.sampled now q l).ok c k m d:=by
 have ha:=RaS.ack_ok h.a hn hq
 have hx:(s.a.ackT now q l).rtt≤18446744073709551615:=Nat.le_trans (Nat.sub_le _ _) hn
 exact {h with a:=ha,t:=TS.put_ok h.t hx}
theorem SN.told_ok {c:Setup} {k m d:Nat} {s:SN} (h:s.ok c k m d) (hr:rightC c=true) (hk:k≤900) {now ac lo:Nat} {x:Smp} (hn:now≤18446744073709551615) (hx:x.deliv≤18446744073709551615∧x.interval≤18446744073709551615∧x.rate≤18446744073709551615∧x.rtt≤18446744073709551615) (hac:ac≤18446744073709551615) (hlo:lo≤18446744073709551615):
  (s.told now x ac lo).ok c (k + 1) m d:=by
 have hv:EvS.ok ⟨now,x.deliv,x.interval,x.rate,x.rtt,x.lim,true,s.a.n,ac,lo,s.L.fl⟩:=⟨hn,hx.1,hx.2.1,hx.2.2.1,hx.2.2.2,h.a.n,hac,hlo,s.fl_le⟩
 exact {h with ec:=(ES.on_c _ _).trans h.ec,e:=ES.on_ok h.e hv hk,fr:=by have:=on_free h.e (by rw [h.ec];exact hr) hv hk;rw [h.ec] at this;exact this}
theorem smp_le {s:RaS} (h:s.ok) {now:Nat} (hn:now≤18446744073709551615) {q:Pk} {l:List Pk} (hq:∀p∈q :: l,p.u64):
  (s.ackT now q l).deliv≤18446744073709551615∧(s.ackT now q l).interval≤18446744073709551615∧(s.ackT now q l).rate≤18446744073709551615∧(s.ackT now q l).rtt≤18446744073709551615:=by
 have h1:sumP s.n (q :: l)≤18446744073709551615:=sumP_le h.n
 have h2:=newestS_ok (l:=l) (hq q List.mem_cons_self).st (fun p hp=>hq p (List.mem_cons_of_mem _ hp))
 exact ⟨Nat.le_trans (Nat.sub_le _ _) h1,ivS_le hn h2,perS_le _ _,Nat.le_trans (Nat.sub_le _ _) hn⟩
theorem SN.ackG_ok {c:Setup} {k m d:Nat} {s:SN} (h:s.ok c k m d) (hr:rightC c=true) (hk:k≤900) (hm:m≤100000) {now:Nat} (hn:now≤18446744073709551615) (f:Pk→Bool):
  (s.ackG now f).ok c (k + 1) m (d + totS (s.acked f))∧(s.ackG now f).w + totS (s.ackG now f).L.out + totS (s.acked f)=s.w + totS s.L.out∧(s.ackG now f).c=s.c∧(s.ackG now f).L.next=s.L.next:=by
 unfold SN.ackG
 split
 ·rename_i e
  rw [e,totS_nil]
  exact ⟨h.mono (Nat.le_succ _) (Nat.le_refl _),rfl,rfl,rfl⟩
 ·rename_i q l e
  obtain ⟨o1,s1⟩:=SN.took_ok h f
  rw [e] at o1 s1 ⊢
  have hq:∀p∈q :: l,p.u64:=fun p hp=>SN.u64 h hr hm (List.mem_filter.1 (by rw [← e] at hp;exact hp)).1
  have o2:=SN.sampled_ok o1 hn hq
  have o3:=SN.loss_ok o2
  obtain ⟨_,s3,_⟩:=SN.loss_w o2
  have hx:=smp_le h.a hn hq
  have o4:=SN.told_ok o3 hr hk hn hx (ac:=sumP 0 (q :: l)) (lo:=sumP 0 ((s.took f).sampled now q l).lostL) (sumP_le (Nat.zero_le _)) (sumP_le (Nat.zero_le _))
  refine ⟨o4,?_,rfl,rfl⟩
  have e1:((s.took f).sampled now q l).w=(s.took f).w:=rfl
  have e2:((s.took f).sampled now q l).L=(s.took f).L:=rfl
  rw [e1,e2] at s3
  generalize ((s.took f).sampled now q l).loss=y at *
  have e3:(y.told now (s.a.ackT now q l) (sumP 0 (q :: l)) (sumP 0 ((s.took f).sampled now q l).lostL)).w=y.w:=rfl
  have e4:(y.told now (s.a.ackT now q l) (sumP 0 (q :: l)) (sumP 0 ((s.took f).sampled now q l).lostL)).L=y.L:=rfl
  rw [e3,e4]
  omega
theorem SN.ack_ok {c:Setup} {k m d:Nat} {s:SN} (h:s.ok c k m d) (hr:rightC c=true) (hk:k≤900) (hm:m≤100000) (now:Nat) (ok:Bool) (f:Pk→Bool):
  ∃a,(s.ackS now ok f).ok c (k + 1) m (d + a)∧(s.ackS now ok f).w + totS (s.ackS now ok f).L.out + a=s.w + totS s.L.out∧(s.ackS now ok f).c.n=s.c.n∧(s.ackS now ok f).L.next=s.L.next:=by
 have same:∃a,s.ok c (k + 1) m (d + a)∧s.w + totS s.L.out + a=s.w + totS s.L.out∧s.c.n=s.c.n∧s.L.next=s.L.next:=⟨0,h.mono (Nat.le_succ _) (Nat.le_refl _),rfl,rfl,rfl⟩
 unfold SN.ackS
 by_cases h1:s.c.p=true
 ·rw [if_pos h1];exact same
 ·rw [if_neg h1]
  by_cases h2:now < s.c.t
  ·rw [if_pos h2];exact same
  ·rw [if_neg h2]
   cases ok with
   | false=>exact same
   | true=>
     rw [if_pos rfl]
     have hn:(s.c.toS now).n=s.c.n:=by
      unfold CS.toS
      rw [if_neg h1,if_neg h2]
      split <;> rfl
     by_cases h3:s.c.toE now=0
     ·rw [if_pos h3]
      obtain ⟨_,_,e3,_⟩:=CS.to_yes h3
      obtain ⟨a1,a2,a3,a4⟩:=SN.ackG_ok (SN.to_ok h now) hr hk hm (now:=now) (by omega) f
      exact ⟨_,a1,a2,by rw [a3];exact hn,a4⟩
     ·rw [if_neg h3]
      exact ⟨0,(SN.to_ok h now).mono (Nat.le_succ _) (Nat.le_refl _),rfl,hn,rfl⟩
end Go.Proofs.YteoepabmnbkabaaGreatDoor

set_option linter.unusedVariables false
namespace Go.Proofs.YteoepabmnbkabaaGreatDoor
open Go.RowKit Cf
structure EP where
 b:Nat
 p:Nat
 a:Nat
 r:Nat
 y:Nat
 n:Nat
def ecells (P:EP) (s:ES):Array Value:=#[.int .u64 (s.c 0:Int),.int .u64 (s.c 1:Int),.int .u64 (s.c 2:Int),.int .u64 (s.c 3:Int),.int .u64 (s.c 4:Int),.int .u64 (s.c 5:Int),.pointer (some ⟨P.p,0,none⟩),.int .u64 (s.bs.hi:Int),.int .u64 (s.bs.lo:Int),.int .u64 (s.bs.bw:Int),.pointer (some ⟨P.a,0,none⟩),.pointer (some ⟨P.y,0,none⟩),.pointer (some ⟨P.n,0,none⟩),.int .i64 s.st,.int .u64 (s.began:Int),.int .u64 (s.rounds:Int),.int .u64 (s.acked:Int),.int .u64 (s.lost:Int),.int .u64 (s.cwnd:Int),.int .u64 (s.kept:Int),.int .u64 (s.ended:Int)]
def etypes:List TypeId:=[105,222,213,283,208,226,228]
def KT (w w':World):Prop:=∀T,T ∉ etypes→∀b cs,Blk w b T cs→Blk w' b T cs
theorem KT.refl (w:World):KT w w:=fun _ _ _ _ h=>h
theorem KT.trans {a b c:World} (h:KT a b) (k:KT b c):KT a c:=fun T hT x cs q=>k T hT x cs (h T hT x cs q)
theorem KT.below {w w':World} (h:Below w.heap.size w w'):KT w w':=fun _ _ _ _ q=>q.keep h
theorem KT.gr {w w':World} {b:Nat} {U:TypeId} {ds:Array Value} (h:w.grownBy w' (some b)) (k:Blk w b U ds) (hU:U∈etypes):KT w w':=
 fun T hT x cs q=>q.grown h (fun e=>by have e':x=b:=by simpa using e
                                       exact hT ((show T=U from by have:=q.ty k;exact Classical.not_not.1 (fun hne=>this hne e'))▸hU))
theorem KT.set {w w0:World} {b:Nat} {U:TypeId} {ds:Array Value} (k0:KT w0 w) (k:Blk w b U ds) (hU:U∈etypes) (i:Nat) (u:Value):KT w0 (w.setCell ⟨b,i,none⟩ u):=
 k0.trans (KT.gr (gr_set (gr_refl _ _) i u) k hU)
structure EngAt (w:World) (B:Nat) (P:EP) (s:ES):Prop where
 e:Blk w P.b 105 (ecells P s)
 p:Blk w P.p 222 s.p.cells
 f:∃g,B≤g∧FlAt w P.a P.r g s.f
 y:CyAt w P.y s.y
 n:Blk w P.n 228 s.n.cells
 gl:Gl w
 lo:0 < B
 own:B≤P.b∧B≤P.p∧B≤P.a∧B≤P.r∧B≤P.y∧B≤P.n
theorem EngAt.keep {w w':World} {B:Nat} {P:EP} {s:ES} (h:EngAt w B P s) (k:Below w.heap.size w w'):EngAt w' B P s:=
 ⟨h.e.keep k,h.p.keep k,by obtain ⟨g,a,b⟩:=h.f;exact ⟨g,a,b.keep k⟩,Blk.keep h.y k,h.n.keep k,h.gl.keep k,h.lo,h.own⟩
theorem EngAt.size {w:World} {B:Nat} {P:EP} {s:ES} (h:EngAt w B P s):B≤w.heap.size:=Nat.le_trans h.own.1 (Nat.le_of_lt h.e.lt)
theorem Gl.below {w w':World} {B:Nat} (h:Gl w) (hb:Below B w w') (hB:0 < B):Gl w':=fun k hk=>
 ⟨(hb.cell (p:=⟨0,_,none⟩) hB).trans (h k hk).1,(hb.cell (p:=⟨0,_,none⟩) hB).trans (h k hk).2⟩
structure EngI (W:World) (B:Nat) (P:EP) (s:ES) (w:World):Prop where
 at_:EngAt w B P s
 bel:Below W.heap.size W w
theorem EngI.to {W w w':World} {B:Nat} {P:EP} {s:ES} (h:EngI W B P s w) (k:Below w.heap.size w w'):EngI W B P s w':=⟨h.at_.keep k,bel_to h.bel k h.bel.size⟩
theorem EngI.drew {W w:World} {B:Nat} {P:EP} {s:ES} (h:EngI W B P s w):EngI W B P s w.drew:=h.to ((Drawn.drew w).below _)
theorem EngI.start {W:World} {B:Nat} {P:EP} {s:ES} (h:EngAt W B P s):EngI W B P s W:=⟨h,Below.refl _ _⟩
theorem ei_bs {W w w':World} {B:Nat} {P:EP} {s:ES} (h:Hid (EngI W B P s w)) (k:Below w.heap.size w w'):w'.cell? ⟨P.b,7,none⟩=some (.int .u64 (s.bs.hi:Int))∧w'.cell? ⟨P.b,8,none⟩=some (.int .u64 (s.bs.lo:Int))∧w'.cell? ⟨P.b,9,none⟩=some (.int .u64 (s.bs.bw:Int))∧Hid (EngI W B P s w'):=
 have q:=h.out.to k
 ⟨q.at_.e.cell rfl,q.at_.e.cell rfl,q.at_.e.cell rfl,q⟩
theorem ei_bs0 {W w:World} {B:Nat} {P:EP} {s:ES} (h:Hid (EngI W B P s w)):w.cell? ⟨P.b,7,none⟩=some (.int .u64 (s.bs.hi:Int))∧w.cell? ⟨P.b,8,none⟩=some (.int .u64 (s.bs.lo:Int))∧w.cell? ⟨P.b,9,none⟩=some (.int .u64 (s.bs.bw:Int))∧Hid (EngI W B P s w):=
 ⟨h.out.at_.e.cell rfl,h.out.at_.e.cell rfl,h.out.at_.e.cell rfl,h⟩
theorem ei_sb {W w w':World} {B:Nat} {P:EP} {s:ES} (h:Hid (EngI W B P s w)) (k:Below w.heap.size w w'):w'.cell? ⟨P.b,13,none⟩=some (.int .i64 s.st)∧w'.cell? ⟨P.b,7,none⟩=some (.int .u64 (s.bs.hi:Int))∧w'.cell? ⟨P.b,8,none⟩=some (.int .u64 (s.bs.lo:Int))∧w'.cell? ⟨P.b,9,none⟩=some (.int .u64 (s.bs.bw:Int))∧Hid (EngI W B P s w'):=
 have q:=h.out.to k
 ⟨q.at_.e.cell rfl,q.at_.e.cell rfl,q.at_.e.cell rfl,q.at_.e.cell rfl,q⟩
theorem ei_sb0 {W w:World} {B:Nat} {P:EP} {s:ES} (h:Hid (EngI W B P s w)):w.cell? ⟨P.b,13,none⟩=some (.int .i64 s.st)∧w.cell? ⟨P.b,7,none⟩=some (.int .u64 (s.bs.hi:Int))∧w.cell? ⟨P.b,8,none⟩=some (.int .u64 (s.bs.lo:Int))∧w.cell? ⟨P.b,9,none⟩=some (.int .u64 (s.bs.bw:Int))∧Hid (EngI W B P s w):=
 ⟨h.out.at_.e.cell rfl,h.out.at_.e.cell rfl,h.out.at_.e.cell rfl,h.out.at_.e.cell rfl,h⟩
theorem ei_c {W w w':World} {B:Nat} {P:EP} {s:ES} (h:Hid (EngI W B P s w)) (k:Below w.heap.size w w'):w'.cell? ⟨P.b,0,none⟩=some (.int .u64 (s.c 0:Int))∧w'.cell? ⟨P.b,1,none⟩=some (.int .u64 (s.c 1:Int))∧w'.cell? ⟨P.b,2,none⟩=some (.int .u64 (s.c 2:Int))∧w'.cell? ⟨P.b,3,none⟩=some (.int .u64 (s.c 3:Int))∧w'.cell? ⟨P.b,4,none⟩=some (.int .u64 (s.c 4:Int))∧w'.cell? ⟨P.b,5,none⟩=some (.int .u64 (s.c 5:Int))∧Hid (EngI W B P s w'):=
 have q:=h.out.to k
 ⟨q.at_.e.cell rfl,q.at_.e.cell rfl,q.at_.e.cell rfl,q.at_.e.cell rfl,q.at_.e.cell rfl,q.at_.e.cell rfl,q⟩
theorem ei_c0 {W w:World} {B:Nat} {P:EP} {s:ES} (h:Hid (EngI W B P s w)):w.cell? ⟨P.b,0,none⟩=some (.int .u64 (s.c 0:Int))∧w.cell? ⟨P.b,1,none⟩=some (.int .u64 (s.c 1:Int))∧w.cell? ⟨P.b,2,none⟩=some (.int .u64 (s.c 2:Int))∧w.cell? ⟨P.b,3,none⟩=some (.int .u64 (s.c 3:Int))∧w.cell? ⟨P.b,4,none⟩=some (.int .u64 (s.c 4:Int))∧w.cell? ⟨P.b,5,none⟩=some (.int .u64 (s.c 5:Int))∧Hid (EngI W B P s w):=
 ⟨h.out.at_.e.cell rfl,h.out.at_.e.cell rfl,h.out.at_.e.cell rfl,h.out.at_.e.cell rfl,h.out.at_.e.cell rfl,h.out.at_.e.cell rfl,h⟩
theorem ei_e3 {W w w':World} {B:Nat} {P:EP} {s:ES} (h:Hid (EngI W B P s w)) (k:Below w.heap.size w w'):w'.cell? ⟨P.b,20,none⟩=some (.int .u64 (s.ended:Int))∧w'.cell? ⟨P.b,3,none⟩=some (.int .u64 (s.c 3:Int))∧Hid (EngI W B P s w'):=
 have q:=h.out.to k
 ⟨q.at_.e.cell rfl,q.at_.e.cell rfl,q⟩
theorem ei_e30 {W w:World} {B:Nat} {P:EP} {s:ES} (h:Hid (EngI W B P s w)):w.cell? ⟨P.b,20,none⟩=some (.int .u64 (s.ended:Int))∧w.cell? ⟨P.b,3,none⟩=some (.int .u64 (s.c 3:Int))∧Hid (EngI W B P s w):=
 ⟨h.out.at_.e.cell rfl,h.out.at_.e.cell rfl,h⟩
theorem conf_First (c:Setup) (w:World) (hc:∀i,c i≤18446744073709551615):
  Calls Tryz.prog 71 #[.agg (ccells c)] w fun e w'=>e=.returned (.int .u64 (firstC c:Int))∧Below w.heap.size w w':=by
 have HP:∀w',Calls Tryz.prog 97 #[.agg (ccells c),.int .u64 (c 1:Int)] w' fun e w''=>e=.returned (.int .u64 (firstC c:Int))∧Below w'.heap.size w' w'':=fun w'=>conf_packets c (c 1) w' (hc 0) (hc 1)
 have HP:=Lib.hid HP
 have G0:=Lib.hid ((Below.refl w.heap.size w).alloc (Nat.le_refl _) (.cells (ccells c) 24))
 clear hc
 generalize firstC c=q at *
 simp only [ccells] at HP G0 ⊢
 go_enter Tryz.func71,Tryz.ntmps71
 go_wp2_with fail
 refine (HP.out _).mono ?_
 rintro e w1 ⟨rfl,h1⟩
 have B1:=Lib.hid (bel_to G0.out h1 G0.out.size)
 clear h1 G0 HP
 go_wp2_with fail
 go_ret
 exact ⟨rfl,B1.out⟩
theorem conf_Least (c:Setup) (w:World) (hc:∀i,c i≤18446744073709551615):
  Calls Tryz.prog 100 #[.agg (ccells c)] w fun e w'=>e=.returned (.int .u64 (leastC c:Int))∧Below w.heap.size w w':=by
 have HP:∀w',Calls Tryz.prog 97 #[.agg (ccells c),.int .u64 4] w' fun e w''=>e=.returned (.int .u64 (leastC c:Int))∧Below w'.heap.size w' w'':=fun w'=>conf_packets c (4) w' (hc 0) (by omega)
 have HP:=Lib.hid HP
 have G0:=Lib.hid ((Below.refl w.heap.size w).alloc (Nat.le_refl _) (.cells (ccells c) 24))
 clear hc
 generalize leastC c=q at *
 simp only [ccells] at HP G0 ⊢
 go_enter Tryz.func100,Tryz.ntmps100
 go_wp2_with fail
 refine (HP.out _).mono ?_
 rintro e w1 ⟨rfl,h1⟩
 have B1:=Lib.hid (bel_to G0.out h1 G0.out.size)
 clear h1 G0 HP
 go_wp2_with fail
 go_ret
 exact ⟨rfl,B1.out⟩
theorem en_Least {B:Nat} {P:EP} {s:ES} (w:World) (h:EngAt w B P s):
  Calls Tryz.prog 27 #[.pointer (some ⟨P.b,0,none⟩)] w fun e w'=>e=.returned (.int .u64 (s.trip:Int))∧Below w.heap.size w w':=by
 obtain ⟨g,_,hf⟩:=h.f
 have HB:=Lib.hid (fl_Best P.a P.r g s.f w hf)
 clear hf
 have c10:=(h).e.cell (i:=10) (v:=.pointer (some ⟨P.a,0,none⟩)) rfl
 unfold ES.trip
 unfold bestV at HB
 clear h
 generalize s.f.best=x at *
 generalize s.f.some=o at *
 cases o with
 | true=>
   go_enter Tryz.func27,Tryz.ntmps27
   go_wp2_with fail
   refine (HB.out).mono ?_
   rintro e w1 ⟨rfl,h1⟩
   go_wp2_with fail
   go_ret
   exact ⟨rfl,h1⟩
 | false=>
   go_enter Tryz.func27,Tryz.ntmps27
   go_wp2_with fail
   refine (HB.out).mono ?_
   rintro e w1 ⟨rfl,h1⟩
   go_wp2_with fail
   go_ret
   exact ⟨rfl,h1⟩
set_option maxHeartbeats 400000 in
theorem en_Best {B k:Nat} {P:EP} {s:ES} (w:World) (h:EngAt w B P s) (ho:s.ok k):
  Calls Tryz.prog 92 #[.pointer (some ⟨P.b,0,none⟩)] w fun e w'=>e=.returned (.int .u64 (s.rate:Int))∧Below w.heap.size w w':=by
 have HY:=Lib.hid (cy_Best P.y s.y w h.y)
 have HL:=Lib.hid (fun w h=>en_Least (B:=B) (P:=P) (s:=s) w h)
 have HF:=Lib.hid (fun w=>conf_First s.c w ho.c)
 have HS:=Lib.hid (fun w=>share_b (firstC s.c) 1000000 s.trip w (firstC_le _) (by omega) (ES.trip_le ho))
 have E0:=Lib.hid h
 have c11:=(h).e.cell (i:=11) (v:=.pointer (some ⟨P.y,0,none⟩)) rfl
 unfold ES.rate
 clear h ho
 simp only [ccells] at HF
 generalize Pl.shareS (firstC s.c) 1000000 s.trip=q at *
 generalize firstC s.c=f at *
 generalize s.trip=tr at *
 by_cases hy:s.y.best=0
 ·rw [if_pos hy]
  rw [hy] at HY
  clear hy
  go_enter Tryz.func92,Tryz.ntmps92
  go_wp2_with fail
  refine (HY.out).mono ?_
  rintro e w1 ⟨rfl,h1⟩
  have E1:=Lib.hid (E0.out.keep h1)
  have B1:=Lib.hid h1
  clear h1 HY E0 c11
  have q:=ei_c0 (Lib.hid (EngI.start E1.out))
  go_split_ands
  go_wp2_with fail
  refine (HF.out _).mono ?_
  rintro e w2 ⟨rfl,h1⟩
  have E2:=Lib.hid (E1.out.keep h1)
  have B2:=Lib.hid (bel_to B1.out h1 B1.out.size)
  clear h1 HF B1
  go_wp2_with fail
  refine (HL.out _ E2.out).mono ?_
  rintro e w3 ⟨rfl,h1⟩
  have B3:=Lib.hid (bel_to B2.out h1 B2.out.size)
  clear h1 HL B2 E2 E1
  go_wp2_with fail
  refine (HS.out _).mono ?_
  rintro e w4 ⟨rfl,h1⟩
  have B4:=Lib.hid (bel_to B3.out h1 B3.out.size)
  clear h1 HS B3
  go_wp2_with fail
  go_ret
  exact ⟨rfl,B4.out⟩
 ·rw [if_neg hy]
  have d0:((s.y.best:Int) == 0)=false:=beq_eq_false_iff_ne.2 (by omega)
  generalize s.y.best=x at *
  clear hy
  go_enter Tryz.func92,Tryz.ntmps92
  go_wp2_with fail
  refine (HY.out).mono ?_
  rintro e w1 ⟨rfl,h1⟩
  have B1:=Lib.hid h1
  clear h1
  go_wp2_with fail
  go_ret
  exact ⟨rfl,B1.out⟩
theorem en_holds {B k:Nat} {P:EP} {s:ES} (w:World) (h:EngAt w B P s) (ho:s.ok k):
  Calls Tryz.prog 240 #[.pointer (some ⟨P.b,0,none⟩)] w fun e w'=>e=.returned (.int .u64 (s.holds:Int))∧Below w.heap.size w w':=by
 have HB:=Lib.hid (fun w h=>en_Best (B:=B) (P:=P) (s:=s) w h ho)
 have HL:=Lib.hid (fun w h=>en_Least (B:=B) (P:=P) (s:=s) w h)
 have HF:=Lib.hid (fun w=>conf_Flight s.rate s.trip w (ES.rate_le ho) (ES.trip_le ho))
 have I0:=Lib.hid (EngI.start h)
 unfold ES.holds
 clear h ho
 generalize Pl.overS s.rate s.trip 1000000=q at *
 generalize s.rate=ra at *
 generalize s.trip=tr at *
 go_enter Tryz.func240,Tryz.ntmps240
 go_wp2_with fail
 refine (HB.out _ I0.out.at_).mono ?_
 rintro e w1 ⟨rfl,h1⟩
 have I1:=Lib.hid (I0.out.to h1)
 clear h1 I0 HB
 go_wp2_with fail
 refine (HL.out _ I1.out.at_).mono ?_
 rintro e w2 ⟨rfl,h1⟩
 have I2:=Lib.hid (I1.out.to h1)
 clear h1 I1 HL
 go_wp2_with fail
 refine (HF.out _).mono ?_
 rintro e w3 ⟨rfl,h1⟩
 have I3:=Lib.hid (I2.out.to h1)
 clear h1 I2 HF
 go_wp2_with fail
 go_ret
 exact ⟨rfl,I3.out.bel⟩
set_option maxHeartbeats 1000000 in
theorem en_uses {B k:Nat} {P:EP} {s:ES} (W:World) (h:EngAt W B P s) (ho:s.ok k):
  Calls Tryz.prog 253 #[.pointer (some ⟨P.b,0,none⟩)] W fun e w'=>e=.returned (.int .u64 (s.uses:Int))∧Below W.heap.size W w':=by
 have HB:=Lib.hid (fun w h=>en_Best (B:=B) (P:=P) (s:=s) w h ho)
 have HL:=Lib.hid (fun w h=>en_Least (B:=B) (P:=P) (s:=s) w h)
 have HI:=Lib.hid (fun w=>bd_Limit s.bs s.rate w)
 have HF:=Lib.hid (fun w=>conf_Flight (s.bs.limit s.rate) s.trip w (ES.limit_le ho) (ES.trip_le ho))
 have I0:=Lib.hid (EngI.start h).drew
 unfold ES.uses
 clear h ho
 generalize Pl.overS (s.bs.limit s.rate) s.trip 1000000=q at *
 generalize s.bs.limit s.rate=li at *
 generalize s.rate=ra at *
 generalize s.trip=tr at *
 simp only [BS.cells] at HI
 go_enter Tryz.func253,Tryz.ntmps253
 go_wp2_with fail
 go_region_held3 (fun w'=>w'.cell? ⟨P.b,7,none⟩=some (.int .u64 (s.bs.hi:Int))∧w'.cell? ⟨P.b,8,none⟩=some (.int .u64 (s.bs.lo:Int))∧w'.cell? ⟨P.b,9,none⟩=some (.int .u64 (s.bs.bw:Int))∧Hid (EngI W B P s w'))
  (first | exact ei_bs0 I0 | exact ei_bs (by assumption) hb)
  (first
   | (go_at_call 92;go_split_ands;(with_reducible refine (HB.out _ (Hid.out (by assumption):EngI W B P s _).at_).mono ?_);rintro e w' ⟨rfl,hb⟩)
   | (go_at_call 27;go_split_ands;(with_reducible refine (HL.out _ (Hid.out (by assumption):EngI W B P s _).at_).mono ?_);rintro e w' ⟨rfl,hb⟩)
   | (go_at_call 99;go_split_ands;(with_reducible refine (HI.out _).mono ?_);rintro e w' ⟨rfl,hb⟩)
   | (go_at_call 284;go_split_ands;(with_reducible refine (HF.out _).mono ?_);rintro e w' ⟨rfl,hb⟩))
 go_split_ands
 have hq:=(Hid.out ‹Hid (EngI W B P s w')›).bel
 go_wp2
 go_ret
 exact ⟨rfl,hq⟩
set_option maxHeartbeats 1000000 in
theorem en_Pace {B k:Nat} {P:EP} {s:ES} (W:World) (h:EngAt W B P s) (ho:s.ok k):
  Calls Tryz.prog 45 #[.pointer (some ⟨P.b,0,none⟩)] W fun e w'=>e=.returned (.int .u64 (s.pace:Int))∧Below W.heap.size W w':=by
 have HB:=Lib.hid (fun w h=>en_Best (B:=B) (P:=P) (s:=s) w h ho)
 have HI:=Lib.hid (fun w=>bd_Limit s.bs s.rate w)
 have HG:=Lib.hid (fun w h=>ga_Pace s.st (s.bs.limit s.rate) (ES.limit_le ho) w h)
 have HL:=Lib.hid (fun w=>conf_Least s.c w ho.c)
 have I0:=Lib.hid (EngI.start h).drew
 have HM:Hid (min (max (paceG (stG s.st) (s.bs.limit s.rate):Int) (leastC s.c:Int)) 1099511627776=(s.pace:Int)):=Lib.hid (by unfold ES.pace;omega)
 clear h ho
 generalize paceG (stG s.st) (s.bs.limit s.rate)=pa at *
 generalize s.bs.limit s.rate=li at *
 generalize s.rate=ra at *
 generalize leastC s.c=le at *
 generalize s.pace=q at *
 simp only [BS.cells] at HI
 simp only [ccells] at HL
 go_enter Tryz.func45,Tryz.ntmps45
 go_wp2_with fail
 go_region_held3 (fun w'=>w'.cell? ⟨P.b,13,none⟩=some (.int .i64 s.st)∧w'.cell? ⟨P.b,7,none⟩=some (.int .u64 (s.bs.hi:Int))∧w'.cell? ⟨P.b,8,none⟩=some (.int .u64 (s.bs.lo:Int))∧w'.cell? ⟨P.b,9,none⟩=some (.int .u64 (s.bs.bw:Int))∧Hid (EngI W B P s w'))
  (first | exact ei_sb0 I0 | exact ei_sb (by assumption) hb)
  (first
   | (go_at_call 92;go_split_ands;(with_reducible refine (HB.out _ (Hid.out (by assumption):EngI W B P s _).at_).mono ?_);rintro e w' ⟨rfl,hb⟩)
   | (go_at_call 99;go_split_ands;(with_reducible refine (HI.out _).mono ?_);rintro e w' ⟨rfl,hb⟩)
   | (go_at_call 98;go_split_ands;(with_reducible refine (HG.out _ (Hid.out (by assumption):EngI W B P s _).at_.gl).mono ?_);rintro e w' ⟨rfl,hb⟩))
 go_split_ands
 have I1:=Lib.hid (Hid.out ‹Hid (EngI W B P s w')›)
 have q:=ei_c0 I1
 go_split_ands
 go_wp2_with fail
 refine (HL.out _).mono ?_
 rintro e w2 ⟨rfl,h1⟩
 have I2:=Lib.hid (I1.out.to h1)
 clear h1
 go_wp2_with fail
 all_goals
  go_ret
  refine ⟨ret_u64 ?_,I2.out.bel⟩
  first | exact HM.out | (rw [← HM.out];omega)
set_option maxHeartbeats 1000000 in
theorem en_Quantum {B k:Nat} {P:EP} {s:ES} (W:World) (h:EngAt W B P s) (ho:s.ok k):
  Calls Tryz.prog 17 #[.pointer (some ⟨P.b,0,none⟩)] W fun e w'=>e=.returned (.int .u64 (s.quant:Int))∧Below W.heap.size W w':=by
 have HB:=Lib.hid (fun w h=>en_Pace (B:=B) (P:=P) (s:=s) w h ho)
 have HQ:=Lib.hid (fun w=>conf_Quantum s.c s.pace w (ho.c 0) (Nat.le_trans (ES.pace_le s) (by omega)))
 have I0:=Lib.hid (EngI.start h).drew
 unfold ES.quant
 clear h ho
 generalize quantumC (s.c 0) s.pace=q at *
 generalize s.pace=pa at *
 simp only [ccells] at HQ
 go_enter Tryz.func17,Tryz.ntmps17
 go_wp2_with fail
 go_region_held3 (fun w'=>w'.cell? ⟨P.b,0,none⟩=some (.int .u64 (s.c 0:Int))∧w'.cell? ⟨P.b,1,none⟩=some (.int .u64 (s.c 1:Int))∧w'.cell? ⟨P.b,2,none⟩=some (.int .u64 (s.c 2:Int))∧w'.cell? ⟨P.b,3,none⟩=some (.int .u64 (s.c 3:Int))∧w'.cell? ⟨P.b,4,none⟩=some (.int .u64 (s.c 4:Int))∧w'.cell? ⟨P.b,5,none⟩=some (.int .u64 (s.c 5:Int))∧Hid (EngI W B P s w'))
  (first | exact ei_c0 I0 | exact ei_c (by assumption) hb)
  (first
   | (go_at_call 45;go_split_ands;(with_reducible refine (HB.out _ (Hid.out (by assumption):EngI W B P s _).at_).mono ?_);rintro e w' ⟨rfl,hb⟩)
   | (go_at_call 44;go_split_ands;(with_reducible refine (HQ.out _).mono ?_);rintro e w' ⟨rfl,hb⟩))
 go_split_ands
 have hq:=(Hid.out ‹Hid (EngI W B P s w')›).bel
 go_wp2
 go_ret
 exact ⟨rfl,hq⟩
theorem en_Cwnd {B:Nat} {P:EP} {s:ES} (w:World) (h:EngAt w B P s):
  Calls Tryz.prog 19 #[.pointer (some ⟨P.b,0,none⟩)] w fun e w'=>e=.returned (.int .u64 (s.cwnd:Int))∧Below w.heap.size w w':=by
 have c18:=(h).e.cell (i:=18) (v:=.int .u64 (s.cwnd:Int)) rfl
 go_enter Tryz.func19,Tryz.ntmps19
 go_wp2
 go_ret
 exact ⟨rfl,Below.refl _ _⟩
end Go.Proofs.YteoepabmnbkabaaGreatDoor

set_option linter.unusedVariables false
namespace Go.Proofs.YteoepabmnbkabaaGreatDoor
open Go.RowKit Cf
def EvS.cells (x:EvS):Array Value:=#[.int .u64 (x.now:Int),.int .u64 (x.sd:Int),.int .u64 (x.si:Int),.int .u64 (x.sr:Int),.int .u64 (x.rt:Int),.bool x.sl,.bool x.sm,.int .u64 (x.dl:Int),.int .u64 (x.ac:Int),.int .u64 (x.lo:Int),.int .u64 (x.fl:Int)]
def EvS.val (x:EvS):Value:=.agg x.cells
end Go.Proofs.YteoepabmnbkabaaGreatDoor
