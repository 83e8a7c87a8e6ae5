/- Lemmas. -/
import Derived.Test.YtjhiooggnpbecaaGreatDoorK209
import Derived.Test.YtjhiooggnpbecaaGreatDoorK214
import Derived.Test.YtjhiooggnpbecaaGreatDoorK216
set_option linter.unusedVariables false
set_option maxHeartbeats 4000000
set_option maxRecDepth 100000
namespace Go.Proofs.YtjhiooggnpbecaaGreatDoor
open Tryz
variable {ds:Array Value} {v:Ending} {B d k m:Nat} {q:Obj} {T U:TypeId} {W w':World}
section
open Go.RowKit Go.Shelf Cf Pl
def mO:Setup:=fun k=>[1500,10,3,10000000,200000,20].getD k.val 0
theorem rH (w:World):Calls prog 35 #[] w fun e w'=>e=.returned (.agg (aK mO))∧Below ↑w w w':=by
 go_enter func35,ntmps35;go_wp2;exact bodyPost_ret (v:=.agg (aK mO)) (by simp [results,Tryz.results35,go_sem,aK,show mO 0=1500 from rfl,show mO 1=10 from rfl,show mO 2=3 from rfl,show mO 3=10000000 from rfl,show mO 4=200000 from rfl,show mO 5=20 from rfl]) rfl ⟨rfl,(Below.refl _ _).alloc (Nat.le_refl _) _⟩
theorem fO (c:Setup) (n:Nat) (w:World) (hc:c 0≤↑ω) (hn:n≤↑ω):
  Calls prog 84 #[.agg (aK c),↑n] w fun e w'=>e=.returned (.int .u64 (mulS n (c 0):Nat))∧Below ↑w w w':=by
 have HM:=lh (cD n (c 0) (w.alloc (.cells (aK c) 24)) hn hc);simp only [aK] at HM ⊢;go_enter func84,ntmps84;go_wp2_with (go_at_call 131;refine HM.out.mono ?_;rintro e w1 ⟨rfl,rfl⟩)
 go_ret;exact ⟨rfl,(Below.refl _ _).alloc (Nat.le_refl _) _⟩
theorem mJ (r t:Nat) (w:World) (hr:r≤↑ω) (ht:t≤↑ω):
  Calls prog 262 #[↑r,↑t] w fun e w'=>e=.returned (.int .u64 (overS r t 1000000:Nat))∧Below ↑w w w':=by
 have HM:=lh (gD r t 1000000 w hr ht (by omega));go_enter func262,ntmps262;go_wp2_with (go_at_call 144;refine HM.out.mono ?_;rintro e w1 ⟨rfl,hb⟩)
 go_ret;exact ⟨rfl,hb⟩
theorem AS (W:World):Below ↑W W W.drew:=⟨rfl,rfl,rfl,Nat.le_refl _,fun _ _=>rfl⟩
structure QuS (w:World) (c:Setup) (w':World):Prop where
 b:Blk w' w.heap.size 24 (aK c)
 g:Below ↑w w w'
theorem QuS.keep {w w1 w2:World} {c:Setup} (h:QuS w c w1) (hb:Below ↑w1 w1 w2):QuS w c w2:=⟨h.b.keep hb,aD h.g hb h.g.size⟩
theorem nX {w:World} {c:Setup} (h:QuS w c w'):w'.cell? ⟨w.heap.size,0,none⟩=some ↑(c 0)∧w'.cell? ⟨w.heap.size,1,none⟩=some ↑(c 1)∧w'.cell? ⟨w.heap.size,2,none⟩=some ↑(c 2)∧w'.cell? ⟨w.heap.size,3,none⟩=some ↑(c 3)∧w'.cell? ⟨w.heap.size,4,none⟩=some ↑(c 4)∧w'.cell? ⟨w.heap.size,5,none⟩=some ↑(c 5)∧Hid (QuS w c w'):=
 ⟨nM h.b 0,nM h.b 1,nM h.b 2,nM h.b 3,nM h.b 4,nM h.b 5,h⟩
theorem AT (r p2 p64:Nat) (hr:r≤↑ω):(min (max (IntKind.u64.wrap ((r:Int) / 1000)) (p2:Int)) (p64:Int))=((min (max (r / 1000) p2) p64:Nat):Int):=by
 have h:IntKind.u64.wrap ((r:Int) / 1000)=((r / 1000:Nat):Int):=by rw [IntKind.wrap_u64];omega
 rw [h];omega
def iY (m r:Nat):Nat:=min (max (r / 1000) (mulS 2 m)) (mulS 64 m)
theorem rI (c:Setup) (r:Nat) (w:World) (hc:c 0≤↑ω) (hr:r≤↑ω):
  Calls prog 42 #[.agg (aK c),↑r] w fun e w'=>e=.returned (.int .u64 (iY (c 0) r:Nat))∧Below ↑w w w':=by
 have h2:∀w',Calls prog 84 #[.agg (aK c),.int .u64 2] w' fun e w''=>e=.returned (.int .u64 (mulS 2 (c 0):Nat))∧Below ↑w' w' w'':=fun w'=>fO c 2 w' hc (by omega);have h64:∀w',Calls prog 84 #[.agg (aK c),.int .u64 64] w' fun e w''=>e=.returned (.int .u64 (mulS 64 (c 0):Nat))∧Below ↑w' w' w'':=fun w'=>fO c 64 w' hc (by omega);have H2:=lh h2;have H64:=lh h64;have B0:=lh (Blk.new w 24 (aK c));have G0:=lh ((Below.refl w.heap.size w).alloc (Nat.le_refl _) (.cells (aK c) 24));clear hc h2 h64;unfold iY;generalize mulS 2 (c 0)=p2 at *;generalize mulS 64 (c 0)=p64 at *;simp only [aK] at H2 H64 B0 G0 ⊢;go_enter func42,ntmps42;go_wp2_with fail;generalize w.alloc (.cells #[↑(c 0),↑(c 1),↑(c 2),↑(c 3),↑(c 4),↑(c 5)] 24)=w0 at *;have C0':QuS w c w0.drew:=⟨B0.out.drew,aD G0.out (AS w0) G0.out.size⟩;have q:=nX C0';clear C0';go_region_held3 (fun w'=>w'.cell? ⟨w.heap.size,0,none⟩=some ↑(c 0)∧w'.cell? ⟨w.heap.size,1,none⟩=some ↑(c 1)∧w'.cell? ⟨w.heap.size,2,none⟩=some ↑(c 2)∧w'.cell? ⟨w.heap.size,3,none⟩=some ↑(c 3)∧w'.cell? ⟨w.heap.size,4,none⟩=some ↑(c 4)∧w'.cell? ⟨w.heap.size,5,none⟩=some ↑(c 5)∧Hid (QuS w c w'))
  (first | exact q | assumption | (go_split_ands;exact nX (QuS.keep (Hid.out (by assumption)) hb)) | (go_split_ands;exact nX (Hid.out (by assumption))))
  (first
   | (go_at_call 84;((with_reducible refine (H2.out _).mono ?_);rintro e w' ⟨rfl,hb⟩))
   | (go_at_call 84;((with_reducible refine (H64.out _).mono ?_);rintro e w' ⟨rfl,hb⟩)))
 all_goals
  go_split_ands
  have hq:=(Hid.out ‹Hid (QuS w c w')›).g;go_wp2;go_ret;exact ⟨bG (AT r p2 p64 hr),hq⟩
end

section
open Go.RowKit Cf
structure EvS where
 now:Nat
 sd:Nat
 si:Nat
 sr:Nat
 rt:Nat
 sl:Bool
 sm:Bool
 dl:Nat
 ac:Nat
 lo:Nat
 fl:Nat
structure EvS.ok (x:EvS):Prop where
 now:x.now≤↑ω
 sd:x.sd≤↑ω
 si:x.si≤↑ω
 sr:x.sr≤↑ω
 rt:x.rt≤↑ω
 dl:x.dl≤↑ω
 ac:x.ac≤↑ω
 lo:x.lo≤↑ω
 fl:x.fl≤↑ω
structure ES where
 c:Setup
 p:Pi
 bs:BS
 f:FS
 y:CY
 n:Ct
 st:Int
 began:Nat
 rounds:Nat
 acked:Nat
 lost:Nat
 cwnd:Nat
 kept:Nat
 ended:Nat
def dI (c:Setup):Nat:=Pl.mulS (c 1) (c 0)
def cV (c:Setup):Nat:=Pl.mulS 4 (c 0)
def ES.trip (s:ES):Nat:=if s.f.some=true then s.f.best.x else 1000
def ES.rate (s:ES):Nat:=if s.y.best=0 then Pl.shareS (dI s.c) 1000000 s.trip else s.y.best
def ES.holds (s:ES):Nat:=Pl.overS s.rate s.trip 1000000
def ES.uses (s:ES):Nat:=Pl.overS (s.bs.limit s.rate) s.trip 1000000
def ES.pace (s:ES):Nat:=min (max (kJ (stG s.st) (s.bs.limit s.rate)) (cV s.c)) 1099511627776
def ES.quant (s:ES):Nat:=iY (s.c 0) s.pace
def ES.stale (s:ES) (now:Nat):Bool:=s.f.some && decide (s.c 3 / 2 < Pl.subS now (max s.f.best.t s.ended))
def ES.count (s:ES) (x:EvS):ES:={s with acked:=Pl.addS s.acked x.ac,lost:=Pl.addS s.lost x.lo}
def ES.rput (s:ES) (x:EvS):Bool:=!x.sl || decide (s.y.best≤x.sr)
def ES.mea (s:ES) (x:EvS):ES:=
 if x.sm=true then {s with f:=s.f.put x.now x.rt,y:=if s.rput x=true then s.y.put [x.sr] else s.y,n:=s.n.ackS (Pl.subS x.dl x.sd) x.dl}
 else {s with f:=s.f.to x.now}
def ES.over (s:ES) (x:EvS):Bool:=x.sm && s.n.ackB (Pl.subS x.dl x.sd)
def ES.lossy (s:ES):Bool:=decide (Pl.mulS (s.c 5) (Pl.addS s.acked s.lost) < Pl.mulS s.lost 1000)
def ES.settle (s:ES):ES:={s with acked:=0,lost:=0,rounds:=Pl.addS s.rounds 1}
def ES.pput (s:ES) (o l:Bool):ES:={s with p:=s.p.put s.y.best o l}
def ES.yield (s:ES) (x:EvS):ES:={s with bs:=if s.st=0∨s.st=5 then s.bs.pull x.fl s.holds else s.bs.lose x.sd x.sr s.cwnd}
def ES.sig (s:ES) (x:EvS) (o l:Bool):aV:=⟨s.p.full,o,l,s.stale x.now,x.fl,s.holds,s.bs.room,s.rounds,Pl.subS x.now s.began,iX s.st s.y.n (s.c 4)⟩
def ES.side (s:ES) (now:Nat) (t:Int):ES:=
 if s.st=6 then {s with ended:=now,cwnd:=max s.cwnd s.kept}
 else if t=6 then {s with kept:=s.cwnd}
 else if t=4 then {s with bs:=s.bs.short}
 else if s.st=5∧t=2 then {s with y:=s.y.next}
 else s
def ES.turn (s:ES) (now:Nat) (t:Int):ES:=if t=s.st then s else {s.side now t with st:=t,began:=now,rounds:=0}
def ES.push (s:ES) (x:EvS):ES:={s with bs:=s.bs.push x.ac}
def ES.o1 (s:ES) (ac:Nat):Nat:=if s.st≠0∨s.p.full=true then min (Pl.addS s.cwnd ac) (Pl.addS (dZ (stG s.st) s.uses) s.quant) else Pl.addS s.cwnd ac
def ES.o2 (s:ES) (ac:Nat):Nat:=s.bs.cap [s.o1 ac]
def ES.o3 (s:ES) (ac:Nat):Nat:=if s.st=2∨s.st=3 then min (s.o2 ac) s.bs.room else if s.st=6 then min (s.o2 ac) (dZ (stG s.st) s.uses) else s.o2 ac
def ES.open (s:ES) (ac:Nat):Nat:=min (max (s.o3 ac) (cV s.c)) 72057594037927936
def ES.e3 (s:ES) (x:EvS):ES:=if (s.count x).over x=true then ((s.count x).mea x).settle else (s.count x).mea x
def ES.eo (s:ES) (x:EvS):Bool:=(s.count x).over x
def ES.el (s:ES) (x:EvS):Bool:=s.eo x && ((s.count x).mea x).lossy
def ES.e4 (s:ES) (x:EvS):ES:=if x.sm=true then (s.e3 x).pput (s.eo x) x.sl else s.e3 x
def ES.e5 (s:ES) (x:EvS):ES:=if s.el x=true then (s.e4 x).yield x else s.e4 x
def ES.e6 (s:ES) (x:EvS):ES:=(s.e5 x).turn x.now (fM (s.e5 x).st ((s.e5 x).sig x (s.eo x) (s.el x)))
def ES.e7 (s:ES) (x:EvS):ES:=if (s.e6 x).st=5∧s.el x=false then (s.e6 x).push x else s.e6 x
def ES.on (s:ES) (x:EvS):ES:={s.e7 x with cwnd:=(s.e7 x).open x.ac}
structure ES.ok (s:ES) (k:Nat):Prop where
 c:∀i,s.c i≤↑ω
 p:s.p.ok
 bs:s.bs.ok
 f:s.f.ok
 fn:s.f.l.length≤k
 fx:∀r∈s.f.l,r.x≤↑ω
 ya:s.y.a≤↑ω
 yt:s.y.t≤↑ω
 yn:s.y.n≤↑ω
 nm:s.n.mark≤↑ω
 nn:s.n.n≤k
 st:0≤s.st∧s.st≤6
 began:s.began≤↑ω
 rounds:s.rounds≤↑ω
 acked:s.acked≤↑ω
 lost:s.lost≤↑ω
 cwnd:s.cwnd≤↑ω
 kept:s.kept≤↑ω
 ended:s.ended≤↑ω
theorem FS.to_x {f:FS} {t:Nat} (h:∀r∈f.l,r.x≤B):∀r∈(f.to t).l,r.x≤B:=by
 unfold FS.to;split
 ·exact h
 ·exact fun r hr=>h r ((List.dropWhile_sublist _).subset hr)
theorem FS.put_x {f:FS} {t x:Nat} (h:∀r∈f.l,r.x≤B) (hx:x≤B):∀r∈(f.put t x).l,r.x≤B:=by
 have h2:=FS.to_x (t:=t) h;unfold FS.put;split
 ·exact h
 ·intro r hr
  simp only [List.mem_append,List.mem_singleton] at hr;rcases hr with hr | rfl
  ·obtain ⟨q,hq,_⟩:=iA (bt f.least ⟨t,x⟩) (f.to t).l
   exact h2 r (by rw [hq];exact List.mem_append_left _ hr)
  ·exact hx
theorem FS.best_x {f:FS} (h:∀r∈f.l,r.x≤B):f.best.x≤B:=by
 unfold FS.best
 match hl:f.l with
 | []=>exact Nat.zero_le _
 | r :: _=>exact h r (by rw [hl];exact List.mem_cons_self)
theorem FS.best_t {f:FS} (h:f.ok):f.best.t≤18446744073709551615:=by
 unfold FS.best
 match hl:f.l with
 | []=>exact Nat.zero_le _
 | r :: _=>exact h.l r (by rw [hl];exact List.mem_cons_self)
theorem CY.best_le {y:CY} (ha:y.a≤B) (ht:y.t≤B):y.best≤B:=by unfold CY.best;omega
theorem ES.trip_le {s:ES} (h:s.ok k):s.trip≤18446744073709551615:=by
 have:=FS.best_x h.fx;unfold ES.trip;split <;> omega
theorem ES.rate_le {s:ES} (h:s.ok k):s.rate≤18446744073709551615:=by
 have:=CY.best_le h.ya h.yt;have:=Pl.shareS_le (dI s.c) 1000000 s.trip;unfold ES.rate;split <;> omega
theorem ES.limit_le {s:ES} (h:s.ok k):s.bs.limit s.rate≤18446744073709551615:=by
 have:=ES.rate_le h;unfold BS.limit;omega
theorem ES.holds_le (s:ES):s.holds≤18446744073709551615:=Pl.overS_le _ _ _
theorem ES.uses_le (s:ES):s.uses≤18446744073709551615:=Pl.overS_le _ _ _
theorem ES.pace_le (s:ES):s.pace≤1099511627776:=Nat.min_le_right _ _
theorem wE (k x:Nat):dZ k x≤18446744073709551615:=Pl.overS_le _ _ _
theorem pV (c:Setup):dI c≤18446744073709551615:=Pl.mulS_le _ _
theorem ES.quant_le (s:ES):s.quant≤18446744073709551615:=by
 have:=Pl.mulS_le 64 (s.c 0);unfold ES.quant iY;omega
theorem BS.room_le {b:BS} (h:b.ok):b.room≤18446744073709551615:=by
 unfold BS.room;split
 ·exact Nat.le_refl _
 ·exact Pl.shareS_le _ _ _
theorem FT (s:Int) (n p:Nat) (hp:p≤↑ω):iX s n p≤18446744073709551615:=by
 have:n % 8 < 8:=Nat.mod_lt _ (by omega);unfold iX;split
 ·omega
 ·split <;> omega
theorem FU (s:Int) (x:aV) (h:0≤s∧s≤6):0≤fM s x∧fM s x≤6:=by
 have h1:=(rG s x).2;have h2:bI s=true:=by unfold bI;simp;omega
 rw [h2] at h1;unfold bI at h1;simpa using h1
theorem ES.sig_ok {s:ES} (h:s.ok k) {x:EvS} (hx:x.ok) (o l:Bool):(s.sig x o l).ok:=
 ⟨hx.fl,s.holds_le,BS.room_le h.bs,h.rounds,Nat.le_trans (Pl.subS_le _ _) hx.now,FT _ _ _ (h.c 4)⟩
theorem ES.count_ok {s:ES} (h:s.ok k) (x:EvS):(s.count x).ok k:=
 {h with acked:=Pl.addS_le _ _,lost:=Pl.addS_le _ _}
theorem ES.mea_ok {s:ES} (h:s.ok k) {x:EvS} (hx:x.ok) (hk:k≤900):(s.mea x).ok (k + 1):=by
 have hn:=h.fn;have hb:s.n.n≤k + 1:=Nat.le_succ_of_le h.nn;unfold ES.mea;split
 ·refine {h with f:=FS.put_ok h.f hx.now (by omega),fn:=Nat.le_trans (FS.put_len _ _ _) (by omega),fx:=FS.put_x h.fx hx.rt,ya:=?_,yt:=?_,yn:=?_,nm:=?_,nn:=?_}
  ·dsimp only;split
   ·exact h.ya
   ·exact h.ya
  ·dsimp only;split
   ·exact PY h.yt (by simp;exact hx.sr)
   ·exact h.yt
  ·dsimp only;split
   ·exact h.yn
   ·exact h.yn
  ·unfold Ct.ackS;dsimp only;split
   ·exact hx.dl
   ·exact h.nm
  ·have:=Ct.ackS_n s.n (Pl.subS x.dl x.sd) x.dl
   have:=h.nn;dsimp only;omega
 ·exact {h with f:=FS.to_ok h.f hx.now,fn:=Nat.le_trans (FS.to_len _ _) (by omega),fx:=FS.to_x h.fx,nn:=hb}
theorem ES.settle_ok {s:ES} (h:s.ok k):s.settle.ok k:={h with acked:=Nat.zero_le _,lost:=Nat.zero_le _,rounds:=Pl.addS_le _ _}
theorem ES.pput_ok {s:ES} (h:s.ok k) (o l:Bool):(s.pput o l).ok k:={h with p:=Pi.put_ok h.p (CY.best_le h.ya h.yt) o l}
theorem ES.yield_ok {s:ES} (h:s.ok k) {x:EvS} (hx:x.ok):(s.yield x).ok k:=
 {h with bs:=by unfold ES.yield;dsimp only;split;exact BS.pull_ok h.bs hx.fl;exact BS.lose_ok h.bs hx.sd hx.sr}
theorem BS.short_ok {b:BS} (h:b.ok):b.short.ok:=⟨h.hi,Nat.le_refl _,Nat.le_refl _⟩
theorem ES.side_ok {s:ES} (h:s.ok k) {now:Nat} (hn:now≤↑ω) (t:Int):(s.side now t).ok k:=by
 have h1:=h.cwnd;have h2:=h.kept;unfold ES.side;split
 ·exact {h with ended:=hn,cwnd:=by dsimp only;omega}
 ·split
  ·exact {h with kept:=h.cwnd}
  ·split
   ·exact {h with bs:=BS.short_ok h.bs}
   ·split
    ·refine {h with ya:=h.yt,yt:=Nat.zero_le _,yn:=?_}
     have:=Nat.mod_lt (s.y.n + 1) (show 0 < 18446744073709551616 by omega);show (s.y.n + 1) % 18446744073709551616≤_
     omega
    ·exact h
theorem ES.turn_ok {s:ES} (h:s.ok k) {now:Nat} (hn:now≤↑ω) {t:Int} (ht:0≤t∧t≤6):(s.turn now t).ok k:=by
 unfold ES.turn;split
 ·exact h
 ·exact {ES.side_ok h hn t with st:=ht,began:=hn,rounds:=Nat.zero_le _}
theorem ES.push_ok {s:ES} {k:Nat} (h:s.ok k) (x:EvS):(s.push x).ok k:={h with bs:=BS.push_ok h.bs _}
theorem ES.open_le (s:ES) (ac:Nat):s.open ac≤72057594037927936:=Nat.min_le_right _ _
theorem ES.e3_ok {s:ES} (h:s.ok k) {x:EvS} (hx:x.ok) (hk:k≤900):(s.e3 x).ok (k + 1):=by
 have:=ES.mea_ok (ES.count_ok h x) hx hk;unfold ES.e3;split
 ·exact ES.settle_ok this
 ·exact this
theorem ES.e4_ok {s:ES} (h:s.ok k) {x:EvS} (hx:x.ok) (hk:k≤900):(s.e4 x).ok (k + 1):=by
 have:=ES.e3_ok h hx hk;unfold ES.e4;split
 ·exact ES.pput_ok this _ _
 ·exact this
theorem ES.e5_ok {s:ES} (h:s.ok k) {x:EvS} (hx:x.ok) (hk:k≤900):(s.e5 x).ok (k + 1):=by
 have:=ES.e4_ok h hx hk;unfold ES.e5;split
 ·exact ES.yield_ok this hx
 ·exact this
theorem ES.e6_ok {s:ES} (h:s.ok k) {x:EvS} (hx:x.ok) (hk:k≤900):(s.e6 x).ok (k + 1):=by
 have h5:=ES.e5_ok h hx hk;exact ES.turn_ok h5 hx.now (FU _ _ h5.st)
theorem ES.e7_ok {s:ES} (h:s.ok k) {x:EvS} (hx:x.ok) (hk:k≤900):(s.e7 x).ok (k + 1):=by
 have:=ES.e6_ok h hx hk;unfold ES.e7;split
 ·exact ES.push_ok this _
 ·exact this
theorem ES.on_ok {s:ES} (h:s.ok k) {x:EvS} (hx:x.ok) (hk:k≤900):(s.on x).ok (k + 1):=
 {ES.e7_ok h hx hk with cwnd:=Nat.le_trans (ES.open_le _ _) (by omega)}
def ES.new (c:Setup):ES:=⟨c,Pi.zero,BS.none,⟨c 3,0,true,[]⟩,⟨0,0,0⟩,Ct.zero,0,0,0,0,0,dI c,0,0⟩
theorem ES.new_ok {c:Setup} (h:∀i,c i≤↑ω):(ES.new c).ok 0:=
 ⟨h,⟨Nat.zero_le _,Nat.zero_le _⟩,BS.none_ok,⟨h 3,Nat.zero_le _,by simp [ES.new],by simp [ES.new]⟩,Nat.le_refl _,by simp [ES.new],Nat.zero_le _,Nat.zero_le _,Nat.zero_le _,Nat.zero_le _,Nat.le_refl _,⟨show (0:Int)≤0 by decide,show (0:Int)≤6 by decide⟩,Nat.zero_le _,Nat.zero_le _,Nat.zero_le _,Nat.zero_le _,pV _,Nat.zero_le _,Nat.zero_le _⟩

def PL.fl (l:PL):Nat:=aS 0 l.out
structure SN where
 c:CS
 L:PL
 t:TS
 a:RaS
 e:ES
 p:PS
 w:Nat
namespace SN
def new (c:Setup):SN:=⟨CS.zero,⟨[],0,c 2,0,false⟩,TS.zero,RaS.zero,ES.new c,PS.zero,0⟩
def isLost (s:SN) (p:Pk):Bool:=s.L.lostB s.c.t s.t.del s.t.lim p
def lostL (s:SN):List Pk:=s.L.out.filter s.isLost
def keptL (s:SN):List Pk:=s.L.out.filter fun p=>!s.isLost p
def loss (s:SN):SN:={s with L:={s.L with out:=s.keptL},w:=Pl.addS s.w (aS 0 s.lostL),t:=if s.lostL≠[]∧s.keptL=[] then s.t.dbl else s.t}
def tell (s:SN) (now lost:Nat) (b:Bool):SN:=if b=true then {s with e:=s.e.on ⟨now,0,0,0,0,false,false,s.a.n,0,lost,s.L.fl⟩} else s
def size (s:SN):Nat:=min (s.e.c 0) s.w
def fits (s:SN):Bool:=decide (0 < s.w) && decide (Pl.addS s.L.fl s.size≤s.e.cwnd)
def goes (s:SN):Bool:=s.fits && s.p.takeB s.size
def stamp (s:SN):RaS:=s.a.stampS s.c.t s.L.fl
def pk (s:SN):Pk:=⟨s.L.next,s.size,s.c.t,s.stamp.first,s.stamp.n,s.stamp.last,decide (s.stamp.mark≠0)⟩
def go1 (s:SN):SN:={s with w:=s.w - s.size,p:=s.p.takeS s.size,a:=s.stamp,L:={s.L with out:=s.L.out ++ [s.pk],next:=s.L.next + 1}}
def gos:Nat→SN→SN × List Pk
 | 0,s=>(s,[])
 | k + 1,s=>if s.goes=true then ((gos k s.go1).1,s.pk :: (gos k s.go1).2) else (s,[])
def run (s:SN):SN × List Pk:=gos s.w s
def rest (s:SN):SN:=if s.w=0 then {s with a:=s.a.limit s.L.fl} else s
def tim (s:SN) (now:Nat):SN:={s with c:=s.c.toS now}
def pre (s:SN) (now:Nat):SN:=(s.tim now).loss.tell now (aS 0 (s.tim now).lostL) (!(s.tim now).lostL.isEmpty)
def paced (s:SN) (now:Nat):SN:={s.pre now with p:=(s.pre now).p.tickS now (s.pre now).e.pace (s.pre now).e.quant}
def tickE (s:SN) (now:Nat):Int:=s.c.toE now
def tickS (s:SN) (now:Nat):SN:=if s.c.toE now=0 then (s.paced now).run.1.rest else s.tim now
def tickL (s:SN) (now:Nat):List Pk:=if s.c.toE now=0 then (s.paced now).run.2 else []
def writeE (s:SN) (n:Nat):Int:=s.c.countE n
def writeS (s:SN) (n:Nat):SN:={s with c:=s.c.countS n,w:=if s.c.countE n=0 then Pl.addS s.w n else s.w}
def ackE (s:SN) (now:Nat) (ok:Bool):Int:=if s.c.p=true then 3 else if now < s.c.t then 2 else if ok=true then s.c.toE now else 1
def acked (s:SN) (f:Pk→Bool):List Pk:=s.L.out.filter f
def took (s:SN) (f:Pk→Bool):SN:={s with L:={s.L with out:=s.L.out.filter (fun p=>!f p),top:=(s.acked f).foldl (fun t p=>max t p.n) s.L.top,topped:=s.L.topped || !(s.acked f).isEmpty}}
def sampled (s:SN) (now:Nat) (q:Pk) (l:List Pk):SN:={s with a:=s.a.ack now q l,t:=s.t.put (s.a.ackT now q l).rtt}
def told (s:SN) (now:Nat) (x:Smp) (ac lo:Nat):SN:={s with e:=s.e.on ⟨now,x.deliv,x.interval,x.rate,x.rtt,x.lim,true,s.a.n,ac,lo,s.L.fl⟩}
def ackG (s:SN) (now:Nat) (f:Pk→Bool):SN:=
 match s.acked f with
 | []=>s
 | q :: l=>(((s.took f).sampled now q l).loss).told now (s.a.ackT now q l) (aS 0 (q :: l)) (aS 0 ((s.took f).sampled now q l).lostL)
def ackS (s:SN) (now:Nat) (ok:Bool) (f:Pk→Bool):SN:=
 if s.c.p=true then s else if now < s.c.t then s else if ok=true then (if s.c.toE now=0 then (s.tim now).ackG now f else s.tim now) else s
def nextB (s:SN):Bool:=!s.c.p && s.fits && s.p.nextB s.size
def nextT (s:SN):Nat:=if (!s.c.p && s.fits)=true then s.p.nextT s.size else 0
end SN
def aR (l:List Pk):Nat:=(l.map Pk.size).sum
theorem fF:aR []=0:=rfl
theorem cF (p:Pk) (l:List Pk):aR (p :: l)=p.size + aR l:=by simp [aR]
theorem iZ (l m:List Pk):aR (l ++ m)=aR l + aR m:=by simp [aR]
theorem gS:∀(l:List Pk) (n:Nat),n≤↑ω→aS n l=min (n + aR l) 18446744073709551615
 | [],n,h=>by rw [fF];show n=_;omega
 | p :: l,n,h=>by
   show aS (Pl.addS n p.size) l=_
   rw [gS l _ (Pl.addS_le _ _),cF];unfold Pl.addS;omega
theorem i6 (f:Pk→Bool):∀l:List Pk,aR (l.filter f) + aR (l.filter fun p=>!f p)=aR l
 | []=>rfl
 | p :: l=>by
   have:=i6 f l;rw [List.filter_cons,List.filter_cons];cases f p <;> simp [cF] <;> omega
theorem tT {l:List Pk} (h:∀p∈l,1≤p.size) (hl:l≠[]):1≤aR l:=by
 cases l with
 | nil=>exact absurd rfl hl
 | cons p l=>rw [cF];have:=h p List.mem_cons_self;omega
theorem AU {l:List Pk} (h:∀p∈l,1≤p.size) (h0:aR l=0):l=[]:=by
 cases l with
 | nil=>rfl
 | cons p l=>rw [cF] at h0;have:=h p List.mem_cons_self;omega

theorem ES.mea_c (s:ES) (x:EvS):(s.mea x).c=s.c:=by unfold ES.mea;split <;> rfl
theorem ES.e3_c (s:ES) (x:EvS):(s.e3 x).c=s.c:=by
 unfold ES.e3;split
 ·exact ES.mea_c _ x
 ·exact ES.mea_c _ x
theorem ES.e4_c (s:ES) (x:EvS):(s.e4 x).c=s.c:=by
 unfold ES.e4;split
 ·exact ES.e3_c s x
 ·exact ES.e3_c s x
theorem ES.e5_c (s:ES) (x:EvS):(s.e5 x).c=s.c:=by
 unfold ES.e5;split
 ·exact ES.e4_c s x
 ·exact ES.e4_c s x
theorem ES.side_c (s:ES) (n:Nat) (t:Int):(s.side n t).c=s.c:=by
 unfold ES.side;split
 ·rfl
 ·split
  ·rfl
  ·split
   ·rfl
   ·split <;> rfl
theorem ES.turn_c (s:ES) (n:Nat) (t:Int):(s.turn n t).c=s.c:=by
 unfold ES.turn;split
 ·rfl
 ·exact ES.side_c s n t
theorem ES.e6_c (s:ES) (x:EvS):(s.e6 x).c=s.c:=(ES.turn_c _ _ _).trans (ES.e5_c s x)
theorem ES.e7_c (s:ES) (x:EvS):(s.e7 x).c=s.c:=by
 unfold ES.e7;split
 ·exact ES.e6_c s x
 ·exact ES.e6_c s x
theorem ES.on_c (s:ES) (x:EvS):(s.on x).c=s.c:=ES.e7_c s x
theorem bP {c:Setup} (h:rightC c=true):1≤c 0∧c 0≤65535∧4≤c 1∧c 1≤1000:=by
 have h0:fits c 0=true:=by
  unfold rightC at h;exact List.all_eq_true.1 h 0 (by decide)
 have h1:fits c 1=true:=by
  unfold rightC at h;exact List.all_eq_true.1 h 1 (by decide)
 unfold fits at h0 h1;have a0:=of_decide_eq_true h0;have a1:=of_decide_eq_true h1;have b0:least 0=1∧most 0=65535∧least 1=4∧most 1=1000:=by decide
 omega
theorem pW {c:Setup} (h:rightC c=true):cV c=4 * c 0:=by
 have:=bP h;unfold cV Pl.mulS;omega
theorem pX {c:Setup} (h:rightC c=true):dI c=c 1 * c 0∧4 * c 0≤c 1 * c 0∧c 1 * c 0≤65535000:=by
 have h1:=bP h;have h2:4 * c 0≤c 1 * c 0:=Nat.mul_le_mul_right _ h1.2.2.1;have h3:c 1 * c 0≤1000 * 65535:=Nat.mul_le_mul h1.2.2.2 h1.2.1;unfold dI Pl.mulS;omega
structure QU (m:Nat) (s:ES):Prop where
 cl:m * 4≤s.cwnd
 pl:m * 4≤s.pace
 ql:m * 2≤s.quant
 qm:s.quant≤m * 64
 pm:s.pace≤1099511627776
 cm:s.cwnd≤72057594037927936
 st:0≤s.st∧s.st≤6
theorem yD {s:ES} (ho:s.ok k) (hr:rightC s.c=true) {x:EvS} (hx:x.ok) (hk:k≤900):QU (s.c 0) (s.on x):=by
 have o1:=ES.on_ok ho hx hk;have hc:=ES.on_c s x;have hm:=bP hr;have hl:=pW hr;have hcw:(s.on x).cwnd=min (max ((s.e7 x).o3 x.ac) (cV (s.e7 x).c)) 72057594037927936:=rfl;rw [ES.e7_c,hl] at hcw;generalize s.on x=t at *;have hp:t.pace=min (max (kJ (stG t.st) (t.bs.limit t.rate)) (cV t.c)) 1099511627776:=rfl;rw [hc,hl] at hp;have hq:t.quant=min (max (t.pace / 1000) (Pl.mulS 2 (t.c 0))) (Pl.mulS 64 (t.c 0)):=rfl;rw [hc] at hq;unfold Pl.mulS at hq;exact ⟨by omega,by omega,by omega,by omega,by omega,by omega,o1.st⟩
structure Grow (c:Setup) (s:ES):Prop where
 c:s.c=c
 st:s.st=0
 p:s.p=Pi.zero
 bs:s.bs=BS.none
 f:s.f.l=[]
 y:s.y=⟨0,0,0⟩
 lo:s.lost=0
 cl:4 * s.c 0≤s.cwnd
theorem Grow.new {c:Setup} (h:rightC c=true):Grow c (ES.new c):=by
 have:=pX h;exact ⟨rfl,rfl,rfl,rfl,rfl,rfl,rfl,by show 4 * c 0≤dI c;omega⟩
theorem Grow.pace {c:Setup} {s t:ES} (h:Grow c s) (k:Grow c t):s.pace=t.pace:=by
 have e:∀u,Grow c u→u.pace=min (max (kJ (stG 0) (BS.none.limit (Pl.shareS (dI c) 1000000 1000))) (cV c)) 1099511627776:=fun u q=>by
  have q1:u.trip=1000:=by unfold ES.trip FS.some;rw [q.f];rfl
  have q2:u.rate=Pl.shareS (dI c) 1000000 1000:=by unfold ES.rate;rw [q.y,q1,q.c];rfl
  unfold ES.pace;rw [q.st,q.bs,q2,q.c]
 rw [e s h,e t k]
theorem yE:∀i,mO i≤18446744073709551615:=by decide
theorem eT:rightC mO=true:=by decide

theorem FV {c:Setup} (h:rightC c=true):QU (c 0) (ES.new c):=by
 have hf:=pX h;have hm:=bP h;have hl:=pW h;have hcw:(ES.new c).cwnd=dI c:=rfl;have hst:(ES.new c).st=0:=rfl;have hc:(ES.new c).c=c:=rfl;generalize ES.new c=t at *;have hp:t.pace=min (max (kJ (stG t.st) (t.bs.limit t.rate)) (cV t.c)) 1099511627776:=rfl;rw [hc,hl] at hp;have hq:t.quant=min (max (t.pace / 1000) (Pl.mulS 2 (t.c 0))) (Pl.mulS 64 (t.c 0)):=rfl;rw [hc] at hq;unfold Pl.mulS at hq;exact ⟨by omega,by omega,by omega,by omega,by omega,by omega,by rw [hst];decide⟩
structure SN.ok (c:Setup) (k m d:Nat) (s:SN):Prop where
 ec:s.e.c=c
 e:s.e.ok k
 fr:QU (c 0) s.e
 cl:s.c.ok
 t:s.t.ok
 a:s.a.ok
 pr:s.p.r≤1099511627776
 pq:s.p.q≤4194240
 pt:s.p.t≤s.c.t
 ps:s.p.s≤s.p.q * 1000000
 re:s.L.reorder=c 2
 pk:∀p∈s.L.out,1≤p.size∧p.size≤c 0∧p.sent≤s.c.t∧p.n < s.L.next
 st:∀p∈s.L.out,p.st.ok
 few:s.L.next≤m
 top:s.L.top≤s.L.next
 sum:s.w + aR s.L.out + d=s.c.n
theorem SN.ok.pok {c:Setup} {s:SN} (h:s.ok c k m d):s.p.ok:=by
 have h1:=h.pr;have h2:=h.pq;have h3:=h.pt;have h4:=h.ps;have h5:=h.cl.1;unfold PS.ok;omega
theorem SN.ok.small {c:Setup} {s:SN} (h:s.ok c k m d):s.w + aR s.L.out≤72057594037927936:=by
 have:=h.sum;have:=h.cl.2;omega
theorem SN.ok.fl {c:Setup} {k m d:Nat} {s:SN} (h:s.ok c k m d):s.L.fl=aR s.L.out:=by
 have:=h.small;unfold PL.fl;rw [gS _ _ (by omega)];omega
theorem SN.new_ok {c:Setup} (h:rightC c=true) (hc:∀i,c i≤↑ω):(SN.new c).ok c 0 0 0 where
 ec:=rfl
 e:=ES.new_ok hc
 fr:=FV h
 cl:=⟨Nat.zero_le _,Nat.zero_le _⟩
 t:=TS.zero_ok
 a:=⟨Nat.zero_le _,Nat.zero_le _,Nat.zero_le _,Nat.zero_le _⟩
 pr:=Nat.zero_le _
 pq:=Nat.zero_le _
 pt:=Nat.zero_le _
 ps:=Nat.zero_le _
 re:=rfl
 pk:=fun p hp=>by cases hp
 st:=fun p hp=>by cases hp
 few:=Nat.le_refl _
 top:=Nat.le_refl _
 sum:=rfl
theorem SN.write_ok {c:Setup} {s:SN} (h:s.ok c k m d) (n:Nat):(s.writeS n).ok c k m d:=by
 have hc:=CS.count_ok h.cl n;have ht:(s.c.countS n).t=s.c.t:=by unfold CS.countS;split;rfl;split <;> rfl
 have hn:(if s.c.countE n=0 then Pl.addS s.w n else s.w) + aR s.L.out + d=(s.c.countS n).n:=by
  have h1:=h.sum;have h2:=h.cl.2;unfold CS.countE CS.countS;by_cases q:s.c.p=true
  ·rw [if_pos q,if_pos q,if_neg (by decide)];exact h1
  ·rw [if_neg q,if_neg q]
   by_cases q2:72057594037927936 < s.c.n + n
   ·rw [if_pos q2,if_pos q2,if_neg (by decide)];exact h1
   ·rw [if_neg q2,if_neg q2,if_pos rfl]
    unfold Pl.addS;show _=s.c.n + n
    omega
 exact {h with cl:=hc,pt:=by show s.p.t≤(s.c.countS n).t;rw [ht];exact h.pt,pk:=fun p hp=>by show _∧_∧p.sent≤(s.c.countS n).t∧_;rw [ht];exact h.pk p hp,sum:=hn}
theorem SN.loss_w {c:Setup} {s:SN} (h:s.ok c k m d):s.loss.w=s.w + aR s.lostL∧s.loss.w + aR s.loss.L.out=s.w + aR s.L.out∧aS 0 s.lostL=aR s.lostL:=by
 have h1:=i6 s.isLost s.L.out;have h2:=h.small;have e:aS 0 s.lostL=aR s.lostL:=by rw [gS _ _ (by omega)];unfold SN.lostL;omega
 have e2:s.loss.w=Pl.addS s.w (aS 0 s.lostL):=rfl;have e3:s.loss.L.out=s.keptL:=rfl;rw [e2,e3,e];unfold Pl.addS SN.lostL SN.keptL;omega
theorem SN.loss_ok {c:Setup} {s:SN} (h:s.ok c k m d):s.loss.ok c k m d:=by
 obtain ⟨_,hs,_⟩:=SN.loss_w h;have hsub:∀p,p∈s.keptL→p∈s.L.out:=fun p hp=>(List.mem_filter.1 hp).1;have ht:s.loss.t.ok:=by
  show (if s.lostL≠[]∧s.keptL=[] then s.t.dbl else s.t).ok
  split
  ·exact TS.dbl_ok h.t
  ·exact h.t
 exact {h with t:=ht,pk:=fun p hp=>h.pk p (hsub p hp),st:=fun p hp=>h.st p (hsub p hp),sum:=by have:=h.sum;show s.loss.w + aR s.loss.L.out + d=s.c.n;omega}
theorem SN.fl_le (s:SN):s.L.fl≤18446744073709551615:=by unfold PL.fl;exact dO (Nat.zero_le _)
theorem SN.tell_ok {c:Setup} {s:SN} (h:s.ok c k m d) (hr:rightC c=true) (hk:k≤900) {now lost:Nat} (hn:now≤↑ω) (hl:lost≤↑ω) (b:Bool):(s.tell now lost b).ok c (k + 1) m d:=by
 unfold SN.tell;have hx:EvS.ok ⟨now,0,0,0,0,false,false,s.a.n,0,lost,s.L.fl⟩:=⟨hn,Nat.zero_le _,Nat.zero_le _,Nat.zero_le _,Nat.zero_le _,h.a.n,Nat.zero_le _,hl,s.fl_le⟩;split
 ·exact {h with ec:=(ES.on_c _ _).trans h.ec,e:=ES.on_ok h.e hx hk,fr:=by have:=yD h.e (by rw [h.ec];exact hr) hx hk;rw [h.ec] at this;exact this}
 ·exact {h with e:={h.e with fn:=Nat.le_succ_of_le h.e.fn,nn:=Nat.le_succ_of_le h.e.nn}}
theorem SN.size_pos {c:Setup} {s:SN} (h:s.ok c k m d) (hr:rightC c=true) (hf:s.fits=true):1≤s.size∧s.size≤c 0∧s.size≤s.w∧s.L.fl + s.size≤s.e.cwnd:=by
 have hm:=bP hr;have h1:=h.small;have h2:=h.fl;unfold SN.fits at hf;simp only [Bool.and_eq_true,decide_eq_true_eq] at hf;have hs:s.size=min (c 0) s.w:=by unfold SN.size;rw [h.ec]
 unfold Pl.addS at hf;omega
theorem SN.go_ok {c:Setup} {s:SN} (h:s.ok c k m d) (hr:rightC c=true) (hg:s.goes=true):s.go1.ok c k (m + 1) d∧s.go1.w + aR s.go1.L.out=s.w + aR s.L.out∧s.go1.L.fl=s.L.fl + s.size∧s.go1.p.s + s.size * 1000000=s.p.s:=by
 unfold SN.goes at hg;simp only [Bool.and_eq_true] at hg;obtain ⟨h1,h2,h3,h4⟩:=SN.size_pos h hr hg.1;have hm:=bP hr;have hw:s.go1.w=s.w - s.size:=rfl;have ho:s.go1.L.out=s.L.out ++ [s.pk]:=rfl;have hz:aR [s.pk]=s.size:=by rw [cF];rfl
 have hsum:s.go1.w + aR s.go1.L.out=s.w + aR s.L.out:=by rw [hw,ho,iZ,hz];omega
 have hfl:s.go1.L.fl=s.L.fl + s.size:=by
  rw [h.fl];unfold PL.fl;have:=h.small;rw [ho,gS _ _ (by omega),iZ,hz];omega
 have hmul:Pl.mulS s.size 1000000=s.size * 1000000:=by unfold Pl.mulS;omega
 have htk:s.size * 1000000≤s.p.s:=by
  have:=hg.2;unfold PS.takeB at this;rw [hmul] at this;exact of_decide_eq_true this
 have hp:s.go1.p=⟨s.p.r,s.p.q,s.p.t,s.p.s - s.size * 1000000⟩:=by
  show s.p.takeS s.size=_
  unfold PS.takeS;rw [hmul,if_pos htk]
 have ha:s.stamp.ok:=RaS.stamp_ok h.a (Nat.le_trans h.cl.1 (by omega)) _;have hpk:∀p∈s.go1.L.out,(1≤p.size∧p.size≤c 0∧p.sent≤s.c.t∧p.n < s.L.next + 1):=by
  intro p hp;rw [ho] at hp;rcases List.mem_append.1 hp with q | q
  ·have:=h.pk p q;omega
  ·obtain rfl:p=s.pk:=by simpa using q
   exact ⟨h1,h2,Nat.le_refl _,Nat.lt_succ_self _⟩
 refine ⟨?_,hsum,hfl,by rw [hp];show s.p.s - _ + _=_;omega⟩;have hct:s.c.t≤18446744073709551615:=Nat.le_trans h.cl.1 (by omega);have hst:∀p∈s.go1.L.out,p.st.ok:=by
  intro p hp;rw [ho] at hp;rcases List.mem_append.1 hp with q | q
  ·exact h.st p q
  ·obtain rfl:p=s.pk:=by simpa using q
   exact ⟨hct,ha.first,ha.n,ha.last⟩
 have hs2:s.go1.w + aR s.go1.L.out + d=s.c.n:=by have:=h.sum;omega
 exact {ec:=h.ec,e:=h.e,fr:=h.fr,cl:=h.cl,t:=h.t,a:=ha,pr:=by rw [hp];exact h.pr,pq:=by rw [hp];exact h.pq,pt:=by rw [hp];exact h.pt,ps:=by rw [hp];exact Nat.le_trans (Nat.sub_le _ _) h.ps,re:=h.re,pk:=hpk,st:=hst,few:=Nat.succ_le_succ h.few,top:=Nat.le_succ_of_le h.top,sum:=hs2}
structure SN.Gone (c:Setup) (s:SN) (r:SN × List Pk):Prop where
 ck:r.1.c=s.c
 e:r.1.e=s.e
 t:r.1.t=s.t
 pr:r.1.p.r=s.p.r
 pq:r.1.p.q=s.p.q
 pt:r.1.p.t=s.p.t
 re:r.1.L.reorder=s.L.reorder
 top:r.1.L.top=s.L.top
 topped:r.1.L.topped=s.L.topped
 out:r.1.L.out=s.L.out ++ r.2
 next:r.1.L.next=s.L.next + r.2.length
 w:r.1.w + aR r.2=s.w
 fl:r.1.L.fl=s.L.fl + aR r.2
 cr:r.1.p.s + aR r.2 * 1000000=s.p.s
 size:∀p∈r.2,1≤p.size∧p.size≤c 0∧p.sent=s.c.t
 num:∀i,i < r.2.length→(r.2.getD i Itm.z).n=s.L.next + i
 len:r.2.length * c 0≤aR r.2 + c 0
 le:r.2≠[]→r.1.L.fl≤s.e.cwnd
theorem SN.Gone.none (c:Setup) (s:SN):SN.Gone c s (s,[]):=
 ⟨rfl,rfl,rfl,rfl,rfl,rfl,rfl,rfl,rfl,by simp,rfl,rfl,rfl,by simp [fF],by simp,by simp,by simp,fun h=>absurd rfl h⟩
theorem SN.goes_w {s:SN} (h:s.goes=true):0 < s.w:=by
 unfold SN.goes SN.fits at h;simp only [Bool.and_eq_true,decide_eq_true_eq] at h;exact h.1.1
theorem SN.gos_zero {s:SN} (h:s.w=0) (fuel:Nat):SN.gos fuel s=(s,[]):=by
 cases fuel with
 | zero=>rfl
 | succ n=>
   unfold SN.gos;rw [if_neg];intro q;have:=SN.goes_w q;omega
theorem AV (p:PS) (x:Nat):(p.takeS x).r=p.r∧(p.takeS x).q=p.q∧(p.takeS x).t=p.t:=by unfold PS.takeS;split <;> exact ⟨rfl,rfl,rfl⟩
theorem SN.gos_gone {c:Setup} {k d:Nat} (hr:rightC c=true):∀(fuel:Nat) {m:Nat} {s:SN},s.ok c k m d→
  SN.Gone c s (SN.gos fuel s)∧(SN.gos fuel s).1.ok c k (m + (SN.gos fuel s).2.length) d
 | 0,m,s,h=>⟨SN.Gone.none c s,h⟩
 | fuel + 1,m,s,h=>by
   by_cases hg:s.goes=true
   ·have e:SN.gos (fuel + 1) s=((SN.gos fuel s.go1).1,s.pk :: (SN.gos fuel s.go1).2):=by rw [SN.gos,if_pos hg]
    rw [e];obtain ⟨o1,g1,g2,g3⟩:=SN.go_ok h hr hg;obtain ⟨h1,h2,h3,h4⟩:=SN.size_pos h hr (by unfold SN.goes at hg;simp only [Bool.and_eq_true] at hg;exact hg.1);obtain ⟨G,O⟩:=SN.gos_gone hr fuel o1;have hz:s.go1.w=0→SN.gos fuel s.go1=(s.go1,[]):=fun q=>SN.gos_zero q fuel;generalize SN.gos fuel s.go1=r at *;obtain ⟨t1,t2,t3⟩:=AV s.p s.size;have hp:s.go1.p=s.p.takeS s.size:=rfl;have hw:s.go1.w=s.w - s.size:=rfl;have hpk:s.pk.size=s.size:=rfl;have hs:s.size=min (c 0) s.w:=by unfold SN.size;rw [h.ec]
    refine ⟨⟨G.ck,G.e,G.t,by rw [G.pr,hp,t1],by rw [G.pq,hp,t2],by rw [G.pt,hp,t3],G.re,G.top,G.topped,?_,?_,?_,?_,?_,?_,?_,?_,?_⟩,?_⟩
    ·rw [G.out];show (s.L.out ++ [s.pk]) ++ r.2=_;simp
    ·rw [G.next,List.length_cons];show s.L.next + 1 + _=_;omega
    ·have:=G.w;show r.1.w + aR (s.pk :: r.2)=s.w;rw [cF,hpk];omega
    ·show r.1.L.fl=s.L.fl + aR (s.pk :: r.2);rw [G.fl,g2,cF,hpk];omega
    ·have g4:=G.cr
     show r.1.p.s + aR (s.pk :: r.2) * 1000000=s.p.s
     rw [cF,hpk,← g3,← g4];generalize aR r.2=T;generalize r.1.p.s=A;generalize s.size=B;omega
    ·intro p hp
     rcases List.mem_cons.1 hp with rfl | q
     ·exact ⟨h1,h2,rfl⟩
     ·exact G.size p q
    ·intro i hi
     cases i with
     | zero=>rfl
     | succ i=>
       have:=G.num i (by simpa using hi);have e2:(s.pk :: r.2).getD (i + 1) Itm.z=r.2.getD i Itm.z:=rfl;rw [e2,this];show s.L.next + 1 + i=_
       omega
    ·rw [List.length_cons,cF,hpk,Nat.add_mul,Nat.one_mul]
     have:=G.len;by_cases q:s.size=c 0
     ·omega
     ·have h0:s.go1.w=0:=by omega
      rw [hz h0];simp [fF]
    ·intro _
     by_cases q:r.2=[]
     ·rw [G.fl,g2,q,fF];omega
     ·exact G.le q
    ·have e3:m + (s.pk :: r.2).length=m + 1 + r.2.length:=by rw [List.length_cons];omega
     rw [e3];exact O
   ·have e:SN.gos (fuel + 1) s=(s,[]):=by rw [SN.gos,if_neg hg]
    rw [e];exact ⟨SN.Gone.none c s,h⟩
theorem SN.to_ok {c:Setup} {k m d:Nat} {s:SN} (h:s.ok c k m d) (now:Nat):(s.tim now).ok c k m d:=by
 have hc:=CS.to_ok h.cl now;have ht:s.c.t≤(s.c.toS now).t∧(s.c.toS now).n=s.c.n:=by
  unfold CS.toS;split
  ·exact ⟨Nat.le_refl _,rfl⟩
  ·split
   ·exact ⟨Nat.le_refl _,rfl⟩
   ·split
    ·exact ⟨Nat.le_refl _,rfl⟩
    ·exact ⟨by dsimp;omega,rfl⟩
 exact {h with cl:=hc,pt:=Nat.le_trans h.pt ht.1,pk:=fun p hp=>⟨(h.pk p hp).1,(h.pk p hp).2.1,Nat.le_trans (h.pk p hp).2.2.1 ht.1,(h.pk p hp).2.2.2⟩,sum:=by have:=h.sum;show s.w + aR s.L.out + d=(s.c.toS now).n;omega}
theorem CS.to_yes {s:CS} {now:Nat} (h:s.toE now=0):s.toS now=⟨now,s.n,false⟩∧s.t≤now∧now≤4398046511104∧s.p=false:=by
 unfold CS.toE at h;unfold CS.toS;split at h
 ·exact absurd h (by decide)
 ·rename_i hp
  rw [if_neg hp];split at h
  ·exact absurd h (by decide)
  ·rename_i h1
   rw [if_neg h1];split at h
   ·exact absurd h (by decide)
   ·rename_i h2
    rw [if_neg h2];have:s.p=false:=by simpa using hp
    exact ⟨by rw [this],by omega,by omega,this⟩
theorem SN.pre_ok {c:Setup} {s:SN} (h:s.ok c k m d) (hr:rightC c=true) (hk:k≤900) (now:Nat) (hn:now≤↑ω):(s.pre now).ok c (k + 1) m d∧(s.pre now).w + aR (s.pre now).L.out=s.w + aR s.L.out∧(s.pre now).c=s.c.toS now∧(s.pre now).p=s.p∧(s.pre now).L.next=s.L.next:=by
 have h1:=SN.to_ok h now;obtain ⟨_,h3,h4⟩:=SN.loss_w h1;have hl:aS 0 (s.tim now).lostL≤18446744073709551615:=dO (Nat.zero_le _);have h5:=SN.tell_ok (SN.loss_ok h1) hr hk hn hl (!(s.tim now).lostL.isEmpty);refine ⟨h5,?_,?_,?_,?_⟩;all_goals
  unfold SN.pre SN.tell;split
  all_goals first | exact h3 | rfl
theorem SN.paced_ok {c:Setup} {s:SN} (h:s.ok c k m d) (hr:rightC c=true) (hk:k≤900) {now:Nat} (ht:s.c.toE now=0):(s.paced now).ok c (k + 1) m d∧(s.paced now).w + aR (s.paced now).L.out=s.w + aR s.L.out∧(s.paced now).c=⟨now,s.c.n,false⟩∧
  (s.paced now).p.r=(s.paced now).e.pace∧(s.paced now).p.q=(s.paced now).e.quant∧(s.paced now).p.t=now∧(s.paced now).L.next=s.L.next:=by
 obtain ⟨e1,e2,e3,e4⟩:=CS.to_yes ht;obtain ⟨h1,h2,h3,h4,h5⟩:=SN.pre_ok h hr hk now (by omega);rw [e1] at h3;have hp:(s.paced now).p=⟨(s.pre now).e.pace,(s.pre now).e.quant,now,min (Pl.addS (s.pre now).p.s (Pl.mulS (s.pre now).e.pace (now - (s.pre now).p.t))) (Pl.mulS (s.pre now).e.quant 1000000)⟩:=by
  show (s.pre now).p.tickS now (s.pre now).e.pace (s.pre now).e.quant=_
  unfold PS.tickS;rw [if_neg];have:=h.pt;rw [h4];omega
 have hm:=bP hr;have hq:=h1.fr.qm;refine ⟨{h1 with pr:=by rw [hp];exact h1.fr.pm,pq:=by rw [hp];show (s.pre now).e.quant≤_;omega,pt:=by rw [hp];show now≤(s.pre now).c.t;rw [h3];exact Nat.le_refl _,ps:=by rw [hp];show min _ _≤(s.pre now).e.quant * 1000000;unfold Pl.mulS;omega},h2,h3,by rw [hp];rfl,by rw [hp];rfl,by rw [hp],h5⟩

theorem SN.ok.mono {c:Setup} {k' m':Nat} {s:SN} (h:s.ok c k m d) (hk:k≤k') (hm:m≤m'):s.ok c k' m' d:=
 {h with e:={h.e with fn:=Nat.le_trans h.e.fn hk,nn:=Nat.le_trans h.e.nn hk},few:=Nat.le_trans h.few hm}
theorem SN.rest_ok {c:Setup} {s:SN} (h:s.ok c k m d):s.rest.ok c k m d:=by
 unfold SN.rest;split
 ·exact {h with a:=RaS.limit_ok h.a _}
 ·exact h
theorem SN.rest_eq (s:SN):s.rest.c=s.c∧s.rest.L=s.L∧s.rest.t=s.t∧s.rest.e=s.e∧s.rest.p=s.p∧s.rest.w=s.w:=by
 unfold SN.rest;split <;> exact ⟨rfl,rfl,rfl,rfl,rfl,rfl⟩
theorem SN.tick_no {s:SN} {now:Nat} (h:s.c.toE now≠0):s.tickS now=s.tim now∧s.tickL now=[]:=by
 unfold SN.tickS SN.tickL;rw [if_neg h,if_neg h];exact ⟨rfl,rfl⟩
structure SN.Ticked (c:Setup) (s:SN) (now:Nat) (r:SN) (l:List Pk):Prop where
 ck:r.c=⟨now,s.c.n,false⟩
 sum:r.w + aR r.L.out=s.w + aR s.L.out
 next:r.L.next=s.L.next + l.length
 pr:r.p.r=r.e.pace
 pq:r.p.q=r.e.quant
 pt:r.p.t=now
 all:aR l≤r.e.quant
 size:∀p∈l,1≤p.size∧p.size≤c 0∧p.sent=now
 num:∀i,i < l.length→(l.getD i Itm.z).n=s.L.next + i
 len:l.length≤65
 le:l≠[]→r.L.fl≤r.e.cwnd
 mem:∀p∈l,p∈r.L.out
theorem SN.tick_yes {c:Setup} {s:SN} (h:s.ok c k m d) (hr:rightC c=true) (hk:k≤900) {now:Nat} (ht:s.c.toE now=0):
  SN.Ticked c s now (s.tickS now) (s.tickL now)∧(s.tickS now).ok c (k + 1) (m + 65) d:=by
 obtain ⟨o1,s1,c1,r1,q1,t1,n1⟩:=SN.paced_ok h hr hk ht;have e1:s.tickS now=(s.paced now).run.1.rest:=by unfold SN.tickS;rw [if_pos ht]
 have e2:s.tickL now=(s.paced now).run.2:=by unfold SN.tickL;rw [if_pos ht]
 rw [e1,e2];clear e1 e2;generalize s.paced now=x at *;obtain ⟨G,O⟩:=SN.gos_gone hr x.w o1;have er:x.run=SN.gos x.w x:=rfl;rw [← er] at G O;generalize x.run=r at *;obtain ⟨a1,a2,a3,a4,a5,a6⟩:=SN.rest_eq r.1;have O2:=SN.rest_ok O;have hm:=bP hr;have hq:aR r.2≤x.e.quant:=by
  have h1:=G.cr;have h2:=o1.ps;rw [q1] at h2;generalize aR r.2=T at *;generalize r.1.p.s=A at *;generalize x.p.s=B at *;generalize x.e.quant=Q at *;omega
 have hqm:=o1.fr.qm;have hlen:r.2.length≤65:=by
  have h1:=G.len;have h2:r.2.length * c 0≤65 * c 0:=by omega
  exact Nat.le_of_mul_le_mul_right h2 hm.1
 refine ⟨⟨by rw [a1,G.ck,c1],?_,by rw [a2,G.next,n1],by rw [a5,a4,G.pr,G.e,r1],by rw [a5,a4,G.pq,G.e,q1],by rw [a5,G.pt,t1],by rw [a4,G.e];exact hq,fun p hp=>?_,fun i hi=>?_,hlen,fun hne=>by rw [a2,a4,G.e];exact G.le hne,fun p hp=>by rw [a2,G.out];exact List.mem_append_right _ hp⟩,O2.mono (Nat.le_refl _) (by omega)⟩
 ·rw [a6,a2,G.out,iZ]
  have:=G.w;omega
 ·have:=G.size p hp
  rw [c1] at this;exact this
 ·rw [← n1];exact G.num i hi
theorem AX (l:List Pk):∀(t b:Nat),t≤b→(∀p∈l,p.n≤b)→l.foldl (fun t p=>max t p.n) t≤b:=by
 induction l with
 | nil=>intro t b h _;exact h
 | cons p l ih=>intro t b h hl;exact ih _ b (by have:=hl p List.mem_cons_self;show max t p.n≤b;omega) (fun q hq=>hl q (List.mem_cons_of_mem _ hq))
theorem SN.took_ok {c:Setup} {s:SN} (h:s.ok c k m d) (f:Pk→Bool):(s.took f).ok c k m (d + aR (s.acked f))∧(s.took f).w + aR (s.took f).L.out + aR (s.acked f)=s.w + aR s.L.out:=by
 have h1:=i6 f s.L.out;have e1:(s.took f).L.out=s.L.out.filter (fun p=>!f p):=rfl;have e2:(s.took f).w=s.w:=rfl;have hs:(s.took f).w + aR (s.took f).L.out + aR (s.acked f)=s.w + aR s.L.out:=by
  rw [e1,e2];unfold SN.acked;omega
 refine ⟨{h with pk:=fun p hp=>h.pk p (List.mem_filter.1 hp).1,st:=fun p hp=>h.st p (List.mem_filter.1 hp).1,top:=?_,sum:=?_},hs⟩
 ·exact AX _ _ _ h.top (fun p hp=>Nat.le_of_lt (h.pk p (List.mem_filter.1 hp).1).2.2.2)
 ·have:=h.sum
  show (s.took f).w + aR (s.took f).L.out + (d + aR (s.acked f))=s.c.n
  omega
theorem SN.u64 {c:Setup} {k m d:Nat} {s:SN} (h:s.ok c k m d) (hr:rightC c=true) (hm:m≤100000) {p:Pk} (hp:p∈s.L.out):p.u64:=by
 have h1:=h.pk p hp;have h2:=h.few;have h3:=bP hr;exact ⟨by omega,by omega,h.st p hp⟩
theorem SN.sampled_ok {c:Setup} {s:SN} (h:s.ok c k m d) {now:Nat} (hn:now≤↑ω) {q:Pk} {l:List Pk} (hq:∀p∈q :: l,p.u64):(s.sampled now q l).ok c k m d:=by
 have ha:=RaS.ack_ok h.a hn hq;have hx:(s.a.ackT now q l).rtt≤18446744073709551615:=Nat.le_trans (Nat.sub_le _ _) hn;exact {h with a:=ha,t:=TS.put_ok h.t hx}
theorem SN.told_ok {c:Setup} {s:SN} (h:s.ok c k m d) (hr:rightC c=true) (hk:k≤900) {now ac lo:Nat} {x:Smp} (hn:now≤↑ω) (hx:x.deliv≤↑ω∧x.interval≤↑ω∧x.rate≤↑ω∧x.rtt≤↑ω) (hac:ac≤↑ω) (hlo:lo≤↑ω):
  (s.told now x ac lo).ok c (k + 1) m d:=by
 have hv:EvS.ok ⟨now,x.deliv,x.interval,x.rate,x.rtt,x.lim,true,s.a.n,ac,lo,s.L.fl⟩:=⟨hn,hx.1,hx.2.1,hx.2.2.1,hx.2.2.2,h.a.n,hac,hlo,s.fl_le⟩;exact {h with ec:=(ES.on_c _ _).trans h.ec,e:=ES.on_ok h.e hv hk,fr:=by have:=yD h.e (by rw [h.ec];exact hr) hv hk;rw [h.ec] at this;exact this}
theorem FX {s:RaS} (h:s.ok) {now:Nat} (hn:now≤↑ω) {q:Pk} {l:List Pk} (hq:∀p∈q :: l,p.u64):
  (s.ackT now q l).deliv≤↑ω∧(s.ackT now q l).interval≤↑ω∧(s.ackT now q l).rate≤↑ω∧(s.ackT now q l).rtt≤18446744073709551615:=by
 have h1:aS s.n (q :: l)≤18446744073709551615:=dO h.n;have h2:=j7 (l:=l) (hq q List.mem_cons_self).st (fun p hp=>hq p (List.mem_cons_of_mem _ hp));exact ⟨Nat.le_trans (Nat.sub_le _ _) h1,DK hn h2,KH _ _,Nat.le_trans (Nat.sub_le _ _) hn⟩
theorem SN.ackG_ok {c:Setup} {s:SN} (h:s.ok c k m d) (hr:rightC c=true) (hk:k≤900) (hm:m≤100000) {now:Nat} (hn:now≤↑ω) (f:Pk→Bool):
  (s.ackG now f).ok c (k + 1) m (d + aR (s.acked f))∧(s.ackG now f).w + aR (s.ackG now f).L.out + aR (s.acked f)=s.w + aR s.L.out∧(s.ackG now f).c=s.c∧(s.ackG now f).L.next=s.L.next:=by
 unfold SN.ackG;split
 ·rename_i e
  rw [e,fF];exact ⟨h.mono (Nat.le_succ _) (Nat.le_refl _),rfl,rfl,rfl⟩
 ·rename_i q l e
  obtain ⟨o1,s1⟩:=SN.took_ok h f;rw [e] at o1 s1 ⊢;have hq:∀p∈q :: l,p.u64:=fun p hp=>SN.u64 h hr hm (List.mem_filter.1 (by rw [← e] at hp;exact hp)).1;have o2:=SN.sampled_ok o1 hn hq;have o3:=SN.loss_ok o2;obtain ⟨_,s3,_⟩:=SN.loss_w o2;have hx:=FX h.a hn hq;have o4:=SN.told_ok o3 hr hk hn hx (ac:=aS 0 (q :: l)) (lo:=aS 0 ((s.took f).sampled now q l).lostL) (dO (Nat.zero_le _)) (dO (Nat.zero_le _));refine ⟨o4,?_,rfl,rfl⟩;have e1:((s.took f).sampled now q l).w=(s.took f).w:=rfl;have e2:((s.took f).sampled now q l).L=(s.took f).L:=rfl;rw [e1,e2] at s3;generalize ((s.took f).sampled now q l).loss=y at *;have e3:(y.told now (s.a.ackT now q l) (aS 0 (q :: l)) (aS 0 ((s.took f).sampled now q l).lostL)).w=y.w:=rfl;have e4:(y.told now (s.a.ackT now q l) (aS 0 (q :: l)) (aS 0 ((s.took f).sampled now q l).lostL)).L=y.L:=rfl;rw [e3,e4];omega
theorem SN.ack_ok {c:Setup} {s:SN} (h:s.ok c k m d) (hr:rightC c=true) (hk:k≤900) (hm:m≤100000) (now:Nat) (ok:Bool) (f:Pk→Bool):
  ∃a,(s.ackS now ok f).ok c (k + 1) m (d + a)∧(s.ackS now ok f).w + aR (s.ackS now ok f).L.out + a=s.w + aR s.L.out∧(s.ackS now ok f).c.n=s.c.n∧(s.ackS now ok f).L.next=s.L.next:=by
 have same:∃a,s.ok c (k + 1) m (d + a)∧s.w + aR s.L.out + a=s.w + aR s.L.out∧s.c.n=s.c.n∧s.L.next=s.L.next:=⟨0,h.mono (Nat.le_succ _) (Nat.le_refl _),rfl,rfl,rfl⟩;unfold SN.ackS;by_cases h1:s.c.p=true
 ·rw [if_pos h1];exact same
 ·rw [if_neg h1]
  by_cases h2:now < s.c.t
  ·rw [if_pos h2];exact same
  ·rw [if_neg h2]
   cases ok with
   | false=>exact same
   | true=>
     rw [if_pos rfl];have hn:(s.c.toS now).n=s.c.n:=by
      unfold CS.toS;rw [if_neg h1,if_neg h2];split <;> rfl
     by_cases h3:s.c.toE now=0
     ·rw [if_pos h3]
      obtain ⟨_,_,e3,_⟩:=CS.to_yes h3;obtain ⟨a1,a2,a3,a4⟩:=SN.ackG_ok (SN.to_ok h now) hr hk hm (now:=now) (by omega) f;exact ⟨_,a1,a2,by rw [a3];exact hn,a4⟩
     ·rw [if_neg h3]
      exact ⟨0,(SN.to_ok h now).mono (Nat.le_succ _) (Nat.le_refl _),rfl,hn,rfl⟩

structure EP where
 b:Nat
 p:Nat
 a:Nat
 r:Nat
 y:Nat
 n:Nat
def eE (P:EP) (s:ES):Array Value:=#[↑(s.c 0),↑(s.c 1),↑(s.c 2),↑(s.c 3),↑(s.c 4),↑(s.c 5),↑(π P.p),↑s.bs.hi,↑s.bs.lo,↑s.bs.bw,↑(π P.a),↑(π P.y),↑(π P.n),.int .i64 s.st,↑s.began,↑s.rounds,↑s.acked,↑s.lost,↑s.cwnd,↑s.kept,↑s.ended]
def lX:List TypeId:=[111,243,249,307,247,232,251]
def KT (w w':World):Prop:=∀T,T ∉ lX→∀b cs,Blk w b T cs→Blk w' b T cs
theorem KT.refl (w:World):KT w w:=fun _ _ _ _ h=>h
theorem KT.trans {a b c:World} (h:KT a b) (k:KT b c):KT a c:=fun T hT x cs q=>k T hT x cs (h T hT x cs q)
theorem KT.below {w:World} (h:Below ↑w w w'):KT w w':=fun _ _ _ _ q=>q.keep h
theorem KT.gr {w:World} {b:Nat} (h:w.grownBy w' (some b)) (k:Blk w b U ds) (hU:U∈lX):KT w w':=
 fun T hT x cs q=>q.grown h (fun e=>by have e':x=b:=by simpa using e
                                       exact hT ((show T=U from by have:=q.ty k;exact Classical.not_not.1 (fun hne=>this hne e'))▸hU))
theorem KT.set {w w0:World} {b:Nat} (k0:KT w0 w) (k:Blk w b U ds) (hU:U∈lX) (i:Nat) (u:Value):KT w0 (w.setCell ⟨b,i,none⟩ u):=
 k0.trans (KT.gr (bH (bW _ _) i u) k hU)
structure aG (w:World) (B:Nat) (P:EP) (s:ES):Prop where
 e:Blk w P.b 111 (eE P s)
 p:Blk w P.p 243 s.p.cells
 f:∃g,B≤g∧dH w P.a P.r g s.f
 y:kL w P.y s.y
 n:Blk w P.n 251 s.n.cells
 gl:Gl w
 lo:0 < B
 own:B≤P.b∧B≤P.p∧B≤P.a∧B≤P.r∧B≤P.y∧B≤P.n
theorem aG.keep {w w':World} {B:Nat} {P:EP} {s:ES} (h:aG w B P s) (k:Below ↑w w w'):aG w' B P s:=
 ⟨h.e.keep k,h.p.keep k,by obtain ⟨g,a,b⟩:=h.f;exact ⟨g,a,b.keep k⟩,Blk.keep h.y k,h.n.keep k,h.gl.keep k,h.lo,h.own⟩
theorem aG.size {w:World} {B:Nat} {P:EP} {s:ES} (h:aG w B P s):B≤w.heap.size:=Nat.le_trans h.own.1 (Nat.le_of_lt h.e.lt)
theorem Gl.below {w:World} (h:Gl w) (hb:Below B w w') (hB:0 < B):Gl w':=fun k hk=>
 ⟨(hb.cell (p:=⟨0,_,none⟩) hB).trans (h k hk).1,(hb.cell (p:=⟨0,_,none⟩) hB).trans (h k hk).2⟩
structure b7 (W:World) (B:Nat) (P:EP) (s:ES) (w:World):Prop where
 at_:aG w B P s
 bel:Below ↑W W w
theorem b7.to {w:World} {P:EP} {s:ES} (h:b7 W B P s w) (k:Below ↑w w w'):b7 W B P s w':=⟨h.at_.keep k,aD h.bel k h.bel.size⟩
theorem b7.drew {W w:World} {B:Nat} {P:EP} {s:ES} (h:b7 W B P s w):b7 W B P s w.drew:=h.to ((aB.drew w).below _)
theorem b7.start {P:EP} {s:ES} (h:aG W B P s):b7 W B P s W:=⟨h,Below.refl _ _⟩
theorem SS {w:World} {P:EP} {s:ES} (h:Hid (b7 W B P s w)) (k:Below ↑w w w'):w'.cell? ⟨P.b,7,none⟩=some ↑s.bs.hi∧w'.cell? ⟨P.b,8,none⟩=some ↑s.bs.lo∧w'.cell? ⟨P.b,9,none⟩=some ↑s.bs.bw∧Hid (b7 W B P s w'):=
 have q:=h.out.to k
 ⟨q.at_.e.cell rfl,q.at_.e.cell rfl,q.at_.e.cell rfl,q⟩
theorem QV {w:World} {P:EP} {s:ES} (h:Hid (b7 W B P s w)):w.cell? ⟨P.b,7,none⟩=some ↑s.bs.hi∧w.cell? ⟨P.b,8,none⟩=some ↑s.bs.lo∧w.cell? ⟨P.b,9,none⟩=some ↑s.bs.bw∧Hid (b7 W B P s w):=
 ⟨h.out.at_.e.cell rfl,h.out.at_.e.cell rfl,h.out.at_.e.cell rfl,h⟩
theorem ST {w:World} {P:EP} {s:ES} (h:Hid (b7 W B P s w)) (k:Below ↑w w w'):w'.cell? ⟨P.b,13,none⟩=some (.int .i64 s.st)∧w'.cell? ⟨P.b,7,none⟩=some ↑s.bs.hi∧w'.cell? ⟨P.b,8,none⟩=some ↑s.bs.lo∧w'.cell? ⟨P.b,9,none⟩=some ↑s.bs.bw∧Hid (b7 W B P s w'):=
 have q:=h.out.to k
 ⟨q.at_.e.cell rfl,q.at_.e.cell rfl,q.at_.e.cell rfl,q.at_.e.cell rfl,q⟩
theorem QW {w:World} {P:EP} {s:ES} (h:Hid (b7 W B P s w)):w.cell? ⟨P.b,13,none⟩=some (.int .i64 s.st)∧w.cell? ⟨P.b,7,none⟩=some ↑s.bs.hi∧w.cell? ⟨P.b,8,none⟩=some ↑s.bs.lo∧w.cell? ⟨P.b,9,none⟩=some ↑s.bs.bw∧Hid (b7 W B P s w):=
 ⟨h.out.at_.e.cell rfl,h.out.at_.e.cell rfl,h.out.at_.e.cell rfl,h.out.at_.e.cell rfl,h⟩
theorem UD {w:World} {P:EP} {s:ES} (h:Hid (b7 W B P s w)) (k:Below ↑w w w'):w'.cell? ⟨P.b,0,none⟩=some ↑(s.c 0)∧w'.cell? ⟨P.b,1,none⟩=some ↑(s.c 1)∧w'.cell? ⟨P.b,2,none⟩=some ↑(s.c 2)∧w'.cell? ⟨P.b,3,none⟩=some ↑(s.c 3)∧w'.cell? ⟨P.b,4,none⟩=some ↑(s.c 4)∧w'.cell? ⟨P.b,5,none⟩=some ↑(s.c 5)∧Hid (b7 W B P s w'):=
 have q:=h.out.to k
 ⟨q.at_.e.cell rfl,q.at_.e.cell rfl,q.at_.e.cell rfl,q.at_.e.cell rfl,q.at_.e.cell rfl,q.at_.e.cell rfl,q⟩
theorem FY {w:World} {P:EP} {s:ES} (h:Hid (b7 W B P s w)):w.cell? ⟨P.b,0,none⟩=some ↑(s.c 0)∧w.cell? ⟨P.b,1,none⟩=some ↑(s.c 1)∧w.cell? ⟨P.b,2,none⟩=some ↑(s.c 2)∧w.cell? ⟨P.b,3,none⟩=some ↑(s.c 3)∧w.cell? ⟨P.b,4,none⟩=some ↑(s.c 4)∧w.cell? ⟨P.b,5,none⟩=some ↑(s.c 5)∧Hid (b7 W B P s w):=
 ⟨h.out.at_.e.cell rfl,h.out.at_.e.cell rfl,h.out.at_.e.cell rfl,h.out.at_.e.cell rfl,h.out.at_.e.cell rfl,h.out.at_.e.cell rfl,h⟩
theorem O0 {w:World} {P:EP} {s:ES} (h:Hid (b7 W B P s w)) (k:Below ↑w w w'):w'.cell? ⟨P.b,20,none⟩=some ↑s.ended∧w'.cell? ⟨P.b,3,none⟩=some ↑(s.c 3)∧Hid (b7 W B P s w'):=
 have q:=h.out.to k
 ⟨q.at_.e.cell rfl,q.at_.e.cell rfl,q⟩
theorem QX {w:World} {P:EP} {s:ES} (h:Hid (b7 W B P s w)):w.cell? ⟨P.b,20,none⟩=some ↑s.ended∧w.cell? ⟨P.b,3,none⟩=some ↑(s.c 3)∧Hid (b7 W B P s w):=
 ⟨h.out.at_.e.cell rfl,h.out.at_.e.cell rfl,h⟩
theorem fP:(∀(c:Setup) (w:World) (hc:∀i,c i≤↑ω),Calls prog 89 #[.agg (aK c)] w fun e w'=>e=.returned ↑(dI c)∧Below ↑w w w')∧(∀(c:Setup) (w:World) (hc:∀i,c i≤↑ω),Calls prog 48 #[.agg (aK c)] w fun e w'=>e=.returned ↑(cV c)∧Below ↑w w w'):=by
 refine ⟨?_,?_⟩
 have k0v:Hid True:=trivial;rotate_left;rotate_left
 all_goals intro c w hc
 all_goals
  first
  |revert k0v;intro k0v;have HP:∀w',Calls prog 84 #[.agg (aK c),↑(c 1)] w' fun e w''=>e=.returned ↑(dI c)∧Below ↑w' w' w'':=fun w'=>fO c (c 1) w' (hc 0) (hc 1)
  |have HP:∀w',Calls prog 84 #[.agg (aK c),.int .u64 4] w' fun e w''=>e=.returned ↑(cV c)∧Below ↑w' w' w'':=fun w'=>fO c (4) w' (hc 0) (by omega)
  have HP:=lh HP;have G0:=lh ((Below.refl w.heap.size w).alloc (Nat.le_refl _) (.cells (aK c) 24));clear hc;first
  |revert k0v;intro k0v;generalize dI c=q at *;simp only [aK] at HP G0 ⊢;go_enter func89,ntmps89
  |generalize cV c=q at *;simp only [aK] at HP G0 ⊢;go_enter func48,ntmps48
  go_wp2_with fail;refine (HP.out _).mono ?_;rintro e w1 ⟨rfl,h1⟩;have B1:=lh (aD G0.out h1 G0.out.size);clear h1 G0 HP;go_wp2_with fail;go_ret;exact ⟨rfl,B1.out⟩
theorem nY {P:EP} {s:ES} (w:World) (h:aG w B P s):
  Calls prog 90 #[↑(π P.b)] w fun e w'=>e=.returned ↑s.trip∧Below ↑w w w':=by
 obtain ⟨g,_,hf⟩:=h.f;have HB:=lh (xX P.a P.r g s.f w hf);clear hf;have c10:=(h).e.cell (i:=10) (v:=↑(π P.a)) rfl;unfold ES.trip;unfold xW at HB;clear h;generalize s.f.best=x at *;generalize s.f.some=o at *;cases o with
 | true=>
   go_enter func90,ntmps90;go_wp2_with fail;refine (HB.out).mono ?_;rintro e w1 ⟨rfl,h1⟩;go_wp2_with fail;go_ret;exact ⟨rfl,h1⟩
 | false=>
   go_enter func90,ntmps90;go_wp2_with fail;refine (HB.out).mono ?_;rintro e w1 ⟨rfl,h1⟩;go_wp2_with fail;go_ret;exact ⟨rfl,h1⟩
theorem rJ {P:EP} {s:ES} (w:World) (h:aG w B P s) (ho:s.ok k):
  Calls prog 47 #[↑(π P.b)] w fun e w'=>e=.returned ↑s.rate∧Below ↑w w w':=by
 have HY:=lh (mU P.y s.y w h.y);have HL:=lh (fun w h=>nY (B:=B) (P:=P) (s:=s) w h);have HF:=lh (fun w=>fP.1 s.c w ho.c);have HS:=lh (fun w=>mT (dI s.c) 1000000 s.trip w (pV _) (by omega) (ES.trip_le ho));have E0:=lh h;have c11:=(h).e.cell (i:=11) (v:=↑(π P.y)) rfl;unfold ES.rate;clear h ho;simp only [aK] at HF;generalize Pl.shareS (dI s.c) 1000000 s.trip=q at *;generalize dI s.c=f at *;generalize s.trip=tr at *;by_cases hy:s.y.best=0
 ·rw [if_pos hy]
  rw [hy] at HY;clear hy;go_enter func47,ntmps47;go_wp2_with fail;refine (HY.out).mono ?_;rintro e w1 ⟨rfl,h1⟩;have E1:=lh (E0.out.keep h1);have B1:=lh h1;clear h1 HY E0 c11;have q:=FY (lh (b7.start E1.out));go_split_ands
  go_wp2_with fail;refine (HF.out _).mono ?_;rintro e w2 ⟨rfl,h1⟩;have E2:=lh (E1.out.keep h1);have B2:=lh (aD B1.out h1 B1.out.size);clear h1 HF B1;go_wp2_with fail;refine (HL.out _ E2.out).mono ?_;rintro e w3 ⟨rfl,h1⟩;have B3:=lh (aD B2.out h1 B2.out.size);clear h1 HL B2 E2 E1;go_wp2_with fail;refine (HS.out _).mono ?_;rintro e w4 ⟨rfl,h1⟩;have B4:=lh (aD B3.out h1 B3.out.size);clear h1 HS B3;go_wp2_with fail;go_ret;exact ⟨rfl,B4.out⟩
 ·rw [if_neg hy]
  have d0:((s.y.best:Int) == 0)=false:=beq_eq_false_iff_ne.2 (by omega);generalize s.y.best=x at *;clear hy;go_enter func47,ntmps47;go_wp2_with fail;refine (HY.out).mono ?_;rintro e w1 ⟨rfl,h1⟩;have B1:=lh h1;clear h1;go_wp2_with fail;go_ret;exact ⟨rfl,B1.out⟩
theorem nZ {P:EP} {s:ES} (w:World) (h:aG w B P s) (ho:s.ok k):
  Calls prog 224 #[↑(π P.b)] w fun e w'=>e=.returned ↑s.holds∧Below ↑w w w':=by
 have HB:=lh (fun w h=>rJ (B:=B) (P:=P) (s:=s) w h ho);have HL:=lh (fun w h=>nY (B:=B) (P:=P) (s:=s) w h);have HF:=lh (fun w=>mJ s.rate s.trip w (ES.rate_le ho) (ES.trip_le ho));have I0:=lh (b7.start h);unfold ES.holds;clear h ho;generalize Pl.overS s.rate s.trip 1000000=q at *;generalize s.rate=ra at *;generalize s.trip=tr at *;go_enter func224,ntmps224;go_wp2_with fail;refine (HB.out _ I0.out.at_).mono ?_;rintro e w1 ⟨rfl,h1⟩;have I1:=lh (I0.out.to h1);clear h1 I0 HB;go_wp2_with fail;refine (HL.out _ I1.out.at_).mono ?_;rintro e w2 ⟨rfl,h1⟩;have I2:=lh (I1.out.to h1);clear h1 I1 HL;go_wp2_with fail;refine (HF.out _).mono ?_;rintro e w3 ⟨rfl,h1⟩;have I3:=lh (I2.out.to h1);clear h1 I2 HF;go_wp2_with fail;go_ret;exact ⟨rfl,I3.out.bel⟩
theorem MC {P:EP} {s:ES} (W:World) (h:aG W B P s) (ho:s.ok k):
  Calls prog 237 #[↑(π P.b)] W fun e w'=>e=.returned ↑s.uses∧Below ↑W W w':=by
 have HB:=lh (fun w h=>rJ (B:=B) (P:=P) (s:=s) w h ho);have HL:=lh (fun w h=>nY (B:=B) (P:=P) (s:=s) w h);have HI:=lh (fun w=>tF s.bs s.rate w);have HF:=lh (fun w=>mJ (s.bs.limit s.rate) s.trip w (ES.limit_le ho) (ES.trip_le ho));have I0:=lh (b7.start h).drew;unfold ES.uses;clear h ho;generalize Pl.overS (s.bs.limit s.rate) s.trip 1000000=q at *;generalize s.bs.limit s.rate=li at *;generalize s.rate=ra at *;generalize s.trip=tr at *;simp only [BS.cells] at HI;go_enter func237,ntmps237;go_wp2_with fail;go_region_held3 (fun w'=>w'.cell? ⟨P.b,7,none⟩=some ↑s.bs.hi∧w'.cell? ⟨P.b,8,none⟩=some ↑s.bs.lo∧w'.cell? ⟨P.b,9,none⟩=some ↑s.bs.bw∧Hid (b7 W B P s w'))
  (first | exact QV I0 | exact SS (by assumption) hb)
  (first
   | (go_at_call 47;go_split_ands;(with_reducible refine (HB.out _ (Hid.out (by assumption):b7 W B P s _).at_).mono ?_);rintro e w' ⟨rfl,hb⟩)
   | (go_at_call 90;go_split_ands;(with_reducible refine (HL.out _ (Hid.out (by assumption):b7 W B P s _).at_).mono ?_);rintro e w' ⟨rfl,hb⟩)
   | (go_at_call 46;go_split_ands;(with_reducible refine (HI.out _).mono ?_);rintro e w' ⟨rfl,hb⟩)
   | (go_at_call 262;go_split_ands;(with_reducible refine (HF.out _).mono ?_);rintro e w' ⟨rfl,hb⟩))
 go_split_ands
 have hq:=(Hid.out ‹Hid (b7 W B P s w')›).bel;go_wp2;go_ret;exact ⟨rfl,hq⟩
theorem rK {P:EP} {s:ES} (W:World) (h:aG W B P s) (ho:s.ok k):
  Calls prog 23 #[↑(π P.b)] W fun e w'=>e=.returned ↑s.pace∧Below ↑W W w':=by
 have HB:=lh (fun w h=>rJ (B:=B) (P:=P) (s:=s) w h ho);have HI:=lh (fun w=>tF s.bs s.rate w);have HG:=lh (fun w h=>KP s.st (s.bs.limit s.rate) (ES.limit_le ho) w h);have HL:=lh (fun w=>fP.2 s.c w ho.c);have I0:=lh (b7.start h).drew;have HM:Hid (min (max (kJ (stG s.st) (s.bs.limit s.rate):Int) (cV s.c:Int)) 1099511627776=(s.pace:Int)):=lh (by unfold ES.pace;omega);clear h ho;generalize kJ (stG s.st) (s.bs.limit s.rate)=pa at *;generalize s.bs.limit s.rate=li at *;generalize s.rate=ra at *;generalize cV s.c=le at *;generalize s.pace=q at *;simp only [BS.cells] at HI;simp only [aK] at HL;go_enter func23,ntmps23;go_wp2_with fail;go_region_held3 (fun w'=>w'.cell? ⟨P.b,13,none⟩=some (.int .i64 s.st)∧w'.cell? ⟨P.b,7,none⟩=some ↑s.bs.hi∧w'.cell? ⟨P.b,8,none⟩=some ↑s.bs.lo∧w'.cell? ⟨P.b,9,none⟩=some ↑s.bs.bw∧Hid (b7 W B P s w'))
  (first | exact QW I0 | exact ST (by assumption) hb)
  (first
   | (go_at_call 47;go_split_ands;(with_reducible refine (HB.out _ (Hid.out (by assumption):b7 W B P s _).at_).mono ?_);rintro e w' ⟨rfl,hb⟩)
   | (go_at_call 46;go_split_ands;(with_reducible refine (HI.out _).mono ?_);rintro e w' ⟨rfl,hb⟩)
   | (go_at_call 45;go_split_ands;(with_reducible refine (HG.out _ (Hid.out (by assumption):b7 W B P s _).at_.gl).mono ?_);rintro e w' ⟨rfl,hb⟩))
 go_split_ands
 have I1:=lh (Hid.out ‹Hid (b7 W B P s w')›);have q:=FY I1;go_split_ands
 go_wp2_with fail;refine (HL.out _).mono ?_;rintro e w2 ⟨rfl,h1⟩;have I2:=lh (I1.out.to h1);clear h1;go_wp2_with fail;all_goals
  go_ret;refine ⟨bG ?_,I2.out.bel⟩;first | exact HM.out | (rw [← HM.out];omega)
theorem kA {P:EP} {s:ES} (W:World) (h:aG W B P s) (ho:s.ok k):
  Calls prog 18 #[↑(π P.b)] W fun e w'=>e=.returned ↑s.quant∧Below ↑W W w':=by
 have HB:=lh (fun w h=>rK (B:=B) (P:=P) (s:=s) w h ho);have HQ:=lh (fun w=>rI s.c s.pace w (ho.c 0) (Nat.le_trans (ES.pace_le s) (by omega)));have I0:=lh (b7.start h).drew;unfold ES.quant;clear h ho;generalize iY (s.c 0) s.pace=q at *;generalize s.pace=pa at *;simp only [aK] at HQ;go_enter func18,ntmps18;go_wp2_with fail;go_region_held3 (fun w'=>w'.cell? ⟨P.b,0,none⟩=some ↑(s.c 0)∧w'.cell? ⟨P.b,1,none⟩=some ↑(s.c 1)∧w'.cell? ⟨P.b,2,none⟩=some ↑(s.c 2)∧w'.cell? ⟨P.b,3,none⟩=some ↑(s.c 3)∧w'.cell? ⟨P.b,4,none⟩=some ↑(s.c 4)∧w'.cell? ⟨P.b,5,none⟩=some ↑(s.c 5)∧Hid (b7 W B P s w'))
  (first | exact FY I0 | exact UD (by assumption) hb)
  (first
   | (go_at_call 23;go_split_ands;(with_reducible refine (HB.out _ (Hid.out (by assumption):b7 W B P s _).at_).mono ?_);rintro e w' ⟨rfl,hb⟩)
   | (go_at_call 42;go_split_ands;(with_reducible refine (HQ.out _).mono ?_);rintro e w' ⟨rfl,hb⟩))
 go_split_ands
 have hq:=(Hid.out ‹Hid (b7 W B P s w')›).bel;go_wp2;go_ret;exact ⟨rfl,hq⟩
theorem FZ {P:EP} {s:ES} (w:World) (h:aG w B P s):
  Calls prog 26 #[↑(π P.b)] w fun e w'=>e=.returned (.int .i64 s.st)∧Below ↑w w w':=by
 have c13:=(h).e.cell (i:=13) (v:=.int .i64 s.st) rfl;go_enter func26,ntmps26;go_wp2;go_ret;exact ⟨rfl,Below.refl _ _⟩
theorem rL {P:EP} {s:ES} (w:World) (h:aG w B P s):
  Calls prog 20 #[↑(π P.b)] w fun e w'=>e=.returned ↑s.cwnd∧Below ↑w w w':=by
 have c18:=(h).e.cell (i:=18) (v:=↑s.cwnd) rfl;go_enter func20,ntmps20;go_wp2;go_ret;exact ⟨rfl,Below.refl _ _⟩

def EvS.cells (x:EvS):Array Value:=#[↑x.now,↑x.sd,↑x.si,↑x.sr,↑x.rt,.bool x.sl,.bool x.sm,↑x.dl,↑x.ac,↑x.lo,↑x.fl]
def EvS.val (x:EvS):Value:=.agg x.cells

theorem UE (c:Nat) (hc:c≤↑ω):IntKind.u64.wrap ((c:Int) / 2)=((c / 2:Nat):Int):=by rw [IntKind.wrap_u64];omega
theorem F9 {P:EP} {s:ES} (now:Nat) (hn:now≤↑ω) (W:World) (h:aG W B P s) (ho:s.ok k):
  Calls prog 232 #[↑(π P.b),↑now] W fun e w'=>e=.returned (.bool (s.stale now))∧Below ↑W W w':=by
 obtain ⟨g,_,hf⟩:=h.f;have HB:=lh (xX P.a P.r g s.f W hf);clear hf;have c10:=h.e.cell (i:=10) (v:=↑(π P.a)) rfl;have bt:=FS.best_t ho.f;have be:=ho.ended;have bc:=ho.c 3;have HS:=lh (fun b w hw=>gZ now (max s.f.best.t s.ended) b hn (by omega) w hw);have I0:=lh (b7.start h);have hm:max (s.f.best.t:Int) (s.ended:Int)=((max s.f.best.t s.ended:Nat):Int):=by omega
 have hq:=UE (s.c 3) bc;unfold ES.stale;unfold xW at HB;clear h ho bt be bc hn;generalize Pl.subS now (max s.f.best.t s.ended)=q at *;generalize max s.f.best.t s.ended=m at *;generalize s.f.best=x at *;generalize s.f.some=o at *;cases o with
 | false=>
   go_enter func232,ntmps232;go_wp2_with fail;refine (HB.out).mono ?_;rintro e w1 ⟨rfl,h1⟩;have I1:=lh (I0.out.to h1);clear h1 I0 HB c10;go_wp2_with fail;go_region
   go_wp2;go_ret;exact ⟨rfl,I1.out.drew.bel⟩
 | true=>
   go_enter func232,ntmps232;go_wp2_with fail;refine (HB.out).mono ?_;rintro e w1 ⟨rfl,h1⟩;have I1:=lh (I0.out.to h1);clear h1 I0 HB c10;go_wp2_with fail;have I2:=lh I1.out.drew;go_region_held3 (fun w'=>w'.cell? ⟨P.b,20,none⟩=some ↑s.ended∧w'.cell? ⟨P.b,3,none⟩=some ↑(s.c 3)∧Hid (b7 W B P s w'))
    (first | exact QX I2 | exact O0 (by assumption) (cM _ _) | exact O0 (by assumption) hb)
    (first
     | (go_at_call 92;go_split_ands;(refine (HS.out _ _ (by first | exact aN (aM rfl rfl) | exact aM rfl rfl)).mono ?_);rintro e w' ⟨rfl,rfl⟩))
   all_goals
    have hd:decide ((s.c 3:Int) / 2 < (q:Int))=decide (s.c 3 / 2 < q):=decide_eq_decide.2 (by omega);have HD:=lh hd;clear hd hq hm;go_wp2;go_ret;exact ⟨by rw [HD.out];rfl,(Hid.out (by assumption):b7 W B P s _).bel⟩
structure fG (W:World) (B:Nat) (P:EP) (s:ES) (x:EvS) (w:World):Prop where
 at0:aG W B P s
 bel:Below ↑W W w
 ev:Blk w W.heap.size 137 x.cells
 re:∃cs,cs.size=10∧Blk w (W.heap.size + 1) 282 cs
theorem fG.at_ {w:World} {P:EP} {s:ES} {x:EvS} (h:fG W B P s x w):aG w B P s:=h.at0.keep h.bel
theorem fG.to {w:World} {P:EP} {s:ES} {x:EvS} (h:fG W B P s x w) (k:Below ↑w w w'):fG W B P s x w':=
 ⟨h.at0,aD h.bel k h.bel.size,h.ev.keep k,by obtain ⟨cs,a,b⟩:=h.re;exact ⟨cs,a,b.keep k⟩⟩
theorem fG.set {W w:World} {B:Nat} {P:EP} {s:ES} {x:EvS} (h:fG W B P s x w) (i:Nat) (u:Value):fG W B P s x (w.setCell ⟨W.heap.size + 1,i,none⟩ u):=
 ⟨h.at0,h.bel.setCell (p:=⟨W.heap.size + 1,i,none⟩) (Nat.le_succ _) u,h.ev.set_other i u (by omega),by obtain ⟨cs,a,b⟩:=h.re;exact ⟨_,by simpa using a,b.set i u⟩⟩
theorem bZ {w:World} {P:EP} {s:ES} {x:EvS} (h:Hid (fG W B P s x w)) (k:Below ↑w w w'):Hid (fG W B P s x w'):=h.out.to k
theorem SU {P:EP} {s:ES} {x:EvS}:(∀w,Hid (fG W B P s x w)→w.cell? ⟨W.heap.size,0,none⟩=some ↑x.now)∧(∀w,Hid (fG W B P s x w)→w.cell? ⟨W.heap.size,10,none⟩=some ↑x.fl)∧(∀w,Hid (fG W B P s x w)→w.cell? ⟨P.b,6,none⟩=some ↑(π P.p))∧(∀w,Hid (fG W B P s x w)→w.cell? ⟨P.b,7,none⟩=some ↑s.bs.hi)∧(∀w,Hid (fG W B P s x w)→w.cell? ⟨P.b,8,none⟩=some ↑s.bs.lo)∧(∀w,Hid (fG W B P s x w)→w.cell? ⟨P.b,9,none⟩=some ↑s.bs.bw)∧(∀w,Hid (fG W B P s x w)→w.cell? ⟨P.b,15,none⟩=some ↑s.rounds)∧(∀w,Hid (fG W B P s x w)→w.cell? ⟨P.b,14,none⟩=some ↑s.began)∧(∀w,Hid (fG W B P s x w)→w.cell? ⟨P.b,13,none⟩=some (.int .i64 s.st))∧(∀w,Hid (fG W B P s x w)→w.cell? ⟨P.b,11,none⟩=some ↑(π P.y))∧(∀w,Hid (fG W B P s x w)→w.cell? ⟨P.b,4,none⟩=some ↑(s.c 4)):=
 ⟨fun w q=>q.out.ev.cell rfl,fun w q=>q.out.ev.cell rfl,fun w q=>q.out.at_.e.cell rfl,fun w q=>q.out.at_.e.cell rfl,fun w q=>q.out.at_.e.cell rfl,fun w q=>q.out.at_.e.cell rfl,fun w q=>q.out.at_.e.cell rfl,fun w q=>q.out.at_.e.cell rfl,fun w q=>q.out.at_.e.cell rfl,fun w q=>q.out.at_.e.cell rfl,fun w q=>q.out.at_.e.cell rfl⟩
theorem nc3 (W:World) (b x:Nat) (T:TypeId) (hb:b=W.heap.size):(W.alloc (.cells #[↑x] T)).cell? ⟨b,0,none⟩=some ↑x:=by subst hb;exact aM rfl rfl
theorem Blk.row {w:World} {g:Nat} {old:Array Value} (h:Blk w g T old) (cs:Array Value):Blk (w.setRow g cs) g T cs:=setRow_heap w g old cs T (0,0) h
theorem Blk.row_other {w:World} {b g:Nat} {cs:Array Value} (h:Blk w b T cs) (hne:b≠g) (ds:Array Value):Blk (w.setRow g ds) b T cs:=(setRow_other w g b ds hne).trans h
theorem kQ {w:World} {P:EP} {s:ES} {x:EvS} (h:Hid (fG W B P s x w)) (cs:Array Value) (hc:cs.size=10):Hid (fG W B P s x (w.setRow (W.heap.size + 1) cs)):=
 lh ⟨h.out.at0,below_setRow h.out.bel (Nat.le_succ _) cs,h.out.ev.row_other (by omega) cs,by obtain ⟨ds,_,q⟩:=h.out.re;exact ⟨cs,hc,q.row cs⟩⟩
theorem AY {P:EP} {s:ES} (x:EvS) (hx:x.ok) (ov lo:Bool) (W:World) (h:aG W B P s) (ho:s.ok k):
  Calls prog 176 #[↑(π P.b),x.val,.bool ov,.bool lo] W fun e w'=>e=.returned (.agg (s.sig x ov lo).cells)∧Below ↑W W w':=by
 have HFu:Hid (∀w,aG w B P s→Calls prog 221 #[↑(π P.p)] w fun e w'=>e=.returned (.bool s.p.full)∧Below ↑w w w'):=lh (fun w hw=>(qX P.p s.p w hw.p).mono fun e w' q=>⟨q.1,q.2▸Below.refl _ _⟩);have HSt:=lh (fun w hw=>F9 (B:=B) (P:=P) (s:=s) x.now hx.now w hw ho);have HHo:=lh (fun w hw=>nZ (B:=B) (P:=P) (s:=s) w hw ho);have HRo:=lh (fun w (_:aG w B P s)=>xQ s.bs w ho.bs);have HSu:Hid (∀b w,w.cell? ⟨b,0,none⟩=some ↑s.began→Calls prog 92 #[↑x.now,.slice (some ⟨b,0,none⟩) 1 1] w fun e w'=>e=.returned ↑(Pl.subS x.now s.began:Nat)∧Below ↑w w w'):=lh (fun b w hw=>(gZ x.now s.began b hx.now ho.began w hw).mono fun e w' q=>⟨q.1,q.2▸Below.refl _ _⟩);have HCo:Hid (∀w,aG w B P s→Calls prog 235 #[↑(π P.y)] w fun e w'=>e=.returned ↑s.y.n∧Below ↑w w w'):=lh (fun w hw=>(EI P.y s.y w hw.y).mono fun e w' q=>⟨q.1,q.2▸Below.refl _ _⟩);have HWa:Hid (∀w,aG w B P s→Calls prog 234 #[.int .i64 s.st,↑s.y.n,↑(s.c 4)] w fun e w'=>e=.returned ↑(iX s.st s.y.n (s.c 4):Nat)∧Below ↑w w w'):=lh (fun w _=>(L8 s.st s.y.n (s.c 4) w ho.yn).mono fun e w' q=>⟨q.1,q.2▸Below.refl _ _⟩);have I0:Hid (fG W B P s x ((W.alloc (.cells x.cells 137)).alloc (.cells #[.bool false,.bool false,.bool false,.bool false,↑ζ,↑ζ,↑ζ,↑ζ,↑ζ,↑ζ] 282)).drew):=lh
  ((show fG W B P s x ((W.alloc (.cells x.cells 137)).alloc (.cells #[.bool false,.bool false,.bool false,.bool false,↑ζ,↑ζ,↑ζ,↑ζ,↑ζ,↑ζ] 282)) from
    ⟨h,((Below.refl _ _).alloc (Nat.le_refl _) _).alloc (by simp) _,(Blk.new W _ _).alloc _,⟨_,rfl,Blk.new1 W _ _ _⟩⟩).to ((aB.drew _).below _))
 have HT:Hid ((s.sig x ov lo).cells=#[.bool s.p.full,.bool ov,.bool lo,.bool (s.stale x.now),↑x.fl,↑s.holds,↑s.bs.room,↑s.rounds,↑(Pl.subS x.now s.began:Nat),↑(iX s.st s.y.n (s.c 4):Nat)]):=lh rfl;clear h ho hx;unfold EvS.cells at I0;unfold EvS.val EvS.cells;simp only [BS.cells] at HRo;generalize iX s.st s.y.n (s.c 4)=d9 at *;generalize Pl.subS x.now s.began=d8 at *;generalize s.bs.room=d6 at *;generalize s.holds=d5 at *;generalize s.stale x.now=d3 at *;generalize s.p.full=d0 at *;go_enter func176,ntmps176;obtain ⟨rr0,rr1,rr2,rr3,rr4,rr5,rr6,rr7,rr8,rr9,rr10⟩:=SU (W:=W) (B:=B) (P:=P) (s:=s) (x:=x);go_wp2_with fail;refine wp_region_noPanic ?_;refine rhd (S:=(fun w'=>Hid (fG W B P s x w'))) I0 (fun hHeld=>?_);refine tkc 0 ?_;refine tkc 1 ?_;refine tkc 2 ?_;refine tks 3 ?_;refine tkc 5 ?_;refine tkc 6 ?_;refine tkc 7 ?_;refine tkc 8 ?_;refine tks 9 ?_;refine tkc 11 ?_;refine tks 12 ?_;refine tkc 13 ?_;refine tkc 15 ?_;refine tkc 16 ?_;refine tkc 17 ?_;refine tks 18 ?_;refine tkc 20 ?_;refine tkc 21 ?_;refine tkc 22 ?_;refine tks 23 ?_;refine tkc 24 ?_;refine tks 25 ?_;refine tkc 26 ?_;refine tkc 27 ?_;refine tkc 28 ?_;refine tks 29 ?_;refine tkc 32 ?_;refine tkc 33 ?_;refine tkc 34 ?_;refine tks 35 ?_;refine tkc 36 ?_;refine tkc 37 ?_;refine tkc 38 ?_;refine tks 39 ?_;refine tkc 41 ?_;refine tkc 42 ?_;refine tkc 43 ?_;refine tkc 44 ?_;refine tks 45 ?_;refine rdy [4,30] ?_;refine cns (fun K hK=>?_) ?_
 ·go_simp
  refine (HFu.out _ hHeld.out.at_).mono ?_;rintro e w1 ⟨rfl,hb⟩;(first | (with_reducible have cc:=aA hb (nc1 _ s.began _)) | (with_reducible have cc:=aA hb (eK _ s.began _)) | (with_reducible have cc:=aA hb cc) | (with_reducible have cc:=aA hb (nc3 _ (W.heap.size + 1 + 1) s.began _ (by simp))) | (with_reducible have cc:=aA hb (aN (nc3 _ (W.heap.size + 1 + 1) s.began _ (by simp)))) | skip)
  go_wp2_with fail;refine bck hK (bZ hHeld hb) (fun hHeld=>?_);clear hK;refine rdy [10,30] ?_;refine cns (fun K hK=>?_) ?_
  ·go_simp
   refine (HSt.out _ hHeld.out.at_).mono ?_;rintro e w1 ⟨rfl,hb⟩;(first | (with_reducible have cc:=aA hb (nc1 _ s.began _)) | (with_reducible have cc:=aA hb (eK _ s.began _)) | (with_reducible have cc:=aA hb cc) | (with_reducible have cc:=aA hb (nc3 _ (W.heap.size + 1 + 1) s.began _ (by simp))) | (with_reducible have cc:=aA hb (aN (nc3 _ (W.heap.size + 1 + 1) s.began _ (by simp)))) | skip)
   go_wp2_with fail;refine bck hK (bZ hHeld hb) (fun hHeld=>?_);clear hK;refine rdy [14,30] ?_;refine cns (fun K hK=>?_) ?_
   ·go_simp
    refine (HHo.out _ hHeld.out.at_).mono ?_;rintro e w1 ⟨rfl,hb⟩;(first | (with_reducible have cc:=aA hb (nc1 _ s.began _)) | (with_reducible have cc:=aA hb (eK _ s.began _)) | (with_reducible have cc:=aA hb cc) | (with_reducible have cc:=aA hb (nc3 _ (W.heap.size + 1 + 1) s.began _ (by simp))) | (with_reducible have cc:=aA hb (aN (nc3 _ (W.heap.size + 1 + 1) s.began _ (by simp)))) | skip)
    go_wp2_with fail;refine bck hK (bZ hHeld hb) (fun hHeld=>?_);clear hK;refine rdy [19,30] ?_;refine cns (fun K hK=>?_) ?_
    ·go_simp
     refine (HRo.out _ hHeld.out.at_).mono ?_;rintro e w1 ⟨rfl,hb⟩;(first | (with_reducible have cc:=aA hb (nc1 _ s.began _)) | (with_reducible have cc:=aA hb (eK _ s.began _)) | (with_reducible have cc:=aA hb cc) | (with_reducible have cc:=aA hb (nc3 _ (W.heap.size + 1 + 1) s.began _ (by simp))) | (with_reducible have cc:=aA hb (aN (nc3 _ (W.heap.size + 1 + 1) s.began _ (by simp)))) | skip)
     go_wp2_with fail;refine bck hK (bZ hHeld hb) (fun hHeld=>?_);clear hK;refine rdy [30] ?_;refine cns (fun K hK=>?_) .nil;go_simp;refine bck hK (bZ hHeld (aC _ _)) (fun hHeld=>?_);clear hK;refine rdy [31] ?_;refine cns (fun K hK=>?_) .nil;go_simp;refine (HSu.out _ _ (by first | with_reducible exact cc | (simp at cc;exact cc) | with_reducible exact nc1 _ _ _ | with_reducible exact eK _ _ _)).mono ?_;rintro e w1 ⟨rfl,hb⟩;go_wp2_with fail;refine bck hK (bZ hHeld hb) (fun hHeld=>?_);clear hK;refine rdy [40] ?_;refine cns (fun K hK=>?_) .nil;go_simp;refine (HCo.out _ hHeld.out.at_).mono ?_;rintro e w1 ⟨rfl,hb⟩;(first | (with_reducible have cc:=aA hb (nc1 _ s.began _)) | (with_reducible have cc:=aA hb (eK _ s.began _)) | (with_reducible have cc:=aA hb cc) | (with_reducible have cc:=aA hb (nc3 _ (W.heap.size + 1 + 1) s.began _ (by simp))) | (with_reducible have cc:=aA hb (aN (nc3 _ (W.heap.size + 1 + 1) s.began _ (by simp)))) | skip)
     go_wp2_with fail;refine bck hK (bZ hHeld hb) (fun hHeld=>?_);clear hK;refine rdy [46] ?_;refine cns (fun K hK=>?_) .nil;go_simp;refine (HWa.out _ hHeld.out.at_).mono ?_;rintro e w1 ⟨rfl,hb⟩;(first | (with_reducible have cc:=aA hb (nc1 _ s.began _)) | (with_reducible have cc:=aA hb (eK _ s.began _)) | (with_reducible have cc:=aA hb cc) | (with_reducible have cc:=aA hb (nc3 _ (W.heap.size + 1 + 1) s.began _ (by simp))) | (with_reducible have cc:=aA hb (aN (nc3 _ (W.heap.size + 1 + 1) s.began _ (by simp)))) | skip)
     go_wp2_with fail;refine bck hK (bZ hHeld hb) (fun hHeld=>?_);clear hK;refine tkc 47 ?_;refine rdy [48] ?_;refine cns (fun K hK=>?_) .nil;obtain ⟨cs,hsz,hre⟩:=hHeld.out.re;rw [if_pos (by rfl)];refine wp_store_row _ _ _ rfl (W.heap.size + 1) #[.bool d0,.bool ov,.bool lo,.bool d3,↑x.fl,↑d5,↑d6,↑s.rounds,↑d8,↑d9] rfl rfl _ cs hre (by kernel_rfl) hsz (by simp [Value.oneCell']) ?_;refine bck hK (kQ hHeld #[.bool d0,.bool ov,.bool lo,.bool d3,↑x.fl,↑d5,↑d6,↑s.rounds,↑d8,↑d9] rfl) (fun hHeld=>?_);clear hK;refine wpAnyH_done (by kernel_rfl) ?_ _;refine NoPanic.normal ?_;have F1:=lh (Blk.row hre #[.bool d0,.bool ov,.bool lo,.bool d3,↑x.fl,↑d5,↑d6,↑s.rounds,↑d8,↑d9]);have FW:=lh hHeld.out.bel;go_wp2_with fail;exact bodyPost_ret (aI rfl _ _ (W.heap.size + 1) 282 _ _ rfl F1.out underlying282 rfl (by kernel_rfl)) rfl ⟨by rw [HT.out],FW.out⟩
    refine cns (fun K hK=>?_) .nil;go_simp;refine bck hK (bZ hHeld (aC _ _)) (fun hHeld=>?_);clear hK;refine rdy [19] ?_;refine cns (fun K hK=>?_) .nil;go_simp;refine (HRo.out _ hHeld.out.at_).mono ?_;rintro e w1 ⟨rfl,hb⟩;(first | (with_reducible have cc:=aA hb (nc1 _ s.began _)) | (with_reducible have cc:=aA hb (eK _ s.began _)) | (with_reducible have cc:=aA hb cc) | (with_reducible have cc:=aA hb (nc3 _ (W.heap.size + 1 + 1) s.began _ (by simp))) | (with_reducible have cc:=aA hb (aN (nc3 _ (W.heap.size + 1 + 1) s.began _ (by simp)))) | skip)
    go_wp2_with fail;refine bck hK (bZ hHeld hb) (fun hHeld=>?_);clear hK;refine rdy [31] ?_;refine cns (fun K hK=>?_) .nil;go_simp;refine (HSu.out _ _ (by first | with_reducible exact cc | (simp at cc;exact cc) | with_reducible exact nc1 _ _ _ | with_reducible exact eK _ _ _)).mono ?_;rintro e w1 ⟨rfl,hb⟩;go_wp2_with fail;refine bck hK (bZ hHeld hb) (fun hHeld=>?_);clear hK;refine rdy [40] ?_;refine cns (fun K hK=>?_) .nil;go_simp;refine (HCo.out _ hHeld.out.at_).mono ?_;rintro e w1 ⟨rfl,hb⟩;(first | (with_reducible have cc:=aA hb (nc1 _ s.began _)) | (with_reducible have cc:=aA hb (eK _ s.began _)) | (with_reducible have cc:=aA hb cc) | (with_reducible have cc:=aA hb (nc3 _ (W.heap.size + 1 + 1) s.began _ (by simp))) | (with_reducible have cc:=aA hb (aN (nc3 _ (W.heap.size + 1 + 1) s.began _ (by simp)))) | skip)
    go_wp2_with fail;refine bck hK (bZ hHeld hb) (fun hHeld=>?_);clear hK;refine rdy [46] ?_;refine cns (fun K hK=>?_) .nil;go_simp;refine (HWa.out _ hHeld.out.at_).mono ?_;rintro e w1 ⟨rfl,hb⟩;(first | (with_reducible have cc:=aA hb (nc1 _ s.began _)) | (with_reducible have cc:=aA hb (eK _ s.began _)) | (with_reducible have cc:=aA hb cc) | (with_reducible have cc:=aA hb (nc3 _ (W.heap.size + 1 + 1) s.began _ (by simp))) | (with_reducible have cc:=aA hb (aN (nc3 _ (W.heap.size + 1 + 1) s.began _ (by simp)))) | skip)
    go_wp2_with fail;refine bck hK (bZ hHeld hb) (fun hHeld=>?_);clear hK;refine tkc 47 ?_;refine rdy [48] ?_;refine cns (fun K hK=>?_) .nil;obtain ⟨cs,hsz,hre⟩:=hHeld.out.re;rw [if_pos (by rfl)];refine wp_store_row _ _ _ rfl (W.heap.size + 1) #[.bool d0,.bool ov,.bool lo,.bool d3,↑x.fl,↑d5,↑d6,↑s.rounds,↑d8,↑d9] rfl rfl _ cs hre (by kernel_rfl) hsz (by simp [Value.oneCell']) ?_;refine bck hK (kQ hHeld #[.bool d0,.bool ov,.bool lo,.bool d3,↑x.fl,↑d5,↑d6,↑s.rounds,↑d8,↑d9] rfl) (fun hHeld=>?_);clear hK;refine wpAnyH_done (by kernel_rfl) ?_ _;refine NoPanic.normal ?_;have F1:=lh (Blk.row hre #[.bool d0,.bool ov,.bool lo,.bool d3,↑x.fl,↑d5,↑d6,↑s.rounds,↑d8,↑d9]);have FW:=lh hHeld.out.bel;go_wp2_with fail;exact bodyPost_ret (aI rfl _ _ (W.heap.size + 1) 282 _ _ rfl F1.out underlying282 rfl (by kernel_rfl)) rfl ⟨by rw [HT.out],FW.out⟩
   refine cns (fun K hK=>?_) .nil;go_simp;refine bck hK (bZ hHeld (aC _ _)) (fun hHeld=>?_);clear hK;refine rdy [14] ?_;refine cns (fun K hK=>?_) .nil;go_simp;refine (HHo.out _ hHeld.out.at_).mono ?_;rintro e w1 ⟨rfl,hb⟩;(first | (with_reducible have cc:=aA hb (nc1 _ s.began _)) | (with_reducible have cc:=aA hb (eK _ s.began _)) | (with_reducible have cc:=aA hb cc) | (with_reducible have cc:=aA hb (nc3 _ (W.heap.size + 1 + 1) s.began _ (by simp))) | (with_reducible have cc:=aA hb (aN (nc3 _ (W.heap.size + 1 + 1) s.began _ (by simp)))) | skip)
   go_wp2_with fail;refine bck hK (bZ hHeld hb) (fun hHeld=>?_);clear hK;refine rdy [19] ?_;refine cns (fun K hK=>?_) .nil;go_simp;refine (HRo.out _ hHeld.out.at_).mono ?_;rintro e w1 ⟨rfl,hb⟩;(first | (with_reducible have cc:=aA hb (nc1 _ s.began _)) | (with_reducible have cc:=aA hb (eK _ s.began _)) | (with_reducible have cc:=aA hb cc) | (with_reducible have cc:=aA hb (nc3 _ (W.heap.size + 1 + 1) s.began _ (by simp))) | (with_reducible have cc:=aA hb (aN (nc3 _ (W.heap.size + 1 + 1) s.began _ (by simp)))) | skip)
   go_wp2_with fail;refine bck hK (bZ hHeld hb) (fun hHeld=>?_);clear hK;refine rdy [31] ?_;refine cns (fun K hK=>?_) .nil;go_simp;refine (HSu.out _ _ (by first | with_reducible exact cc | (simp at cc;exact cc) | with_reducible exact nc1 _ _ _ | with_reducible exact eK _ _ _)).mono ?_;rintro e w1 ⟨rfl,hb⟩;go_wp2_with fail;refine bck hK (bZ hHeld hb) (fun hHeld=>?_);clear hK;refine rdy [40] ?_;refine cns (fun K hK=>?_) .nil;go_simp;refine (HCo.out _ hHeld.out.at_).mono ?_;rintro e w1 ⟨rfl,hb⟩;(first | (with_reducible have cc:=aA hb (nc1 _ s.began _)) | (with_reducible have cc:=aA hb (eK _ s.began _)) | (with_reducible have cc:=aA hb cc) | (with_reducible have cc:=aA hb (nc3 _ (W.heap.size + 1 + 1) s.began _ (by simp))) | (with_reducible have cc:=aA hb (aN (nc3 _ (W.heap.size + 1 + 1) s.began _ (by simp)))) | skip)
   go_wp2_with fail;refine bck hK (bZ hHeld hb) (fun hHeld=>?_);clear hK;refine rdy [46] ?_;refine cns (fun K hK=>?_) .nil;go_simp;refine (HWa.out _ hHeld.out.at_).mono ?_;rintro e w1 ⟨rfl,hb⟩;(first | (with_reducible have cc:=aA hb (nc1 _ s.began _)) | (with_reducible have cc:=aA hb (eK _ s.began _)) | (with_reducible have cc:=aA hb cc) | (with_reducible have cc:=aA hb (nc3 _ (W.heap.size + 1 + 1) s.began _ (by simp))) | (with_reducible have cc:=aA hb (aN (nc3 _ (W.heap.size + 1 + 1) s.began _ (by simp)))) | skip)
   go_wp2_with fail;refine bck hK (bZ hHeld hb) (fun hHeld=>?_);clear hK;refine tkc 47 ?_;refine rdy [48] ?_;refine cns (fun K hK=>?_) .nil;obtain ⟨cs,hsz,hre⟩:=hHeld.out.re;rw [if_pos (by rfl)];refine wp_store_row _ _ _ rfl (W.heap.size + 1) #[.bool d0,.bool ov,.bool lo,.bool d3,↑x.fl,↑d5,↑d6,↑s.rounds,↑d8,↑d9] rfl rfl _ cs hre (by kernel_rfl) hsz (by simp [Value.oneCell']) ?_;refine bck hK (kQ hHeld #[.bool d0,.bool ov,.bool lo,.bool d3,↑x.fl,↑d5,↑d6,↑s.rounds,↑d8,↑d9] rfl) (fun hHeld=>?_);clear hK;refine wpAnyH_done (by kernel_rfl) ?_ _;refine NoPanic.normal ?_;have F1:=lh (Blk.row hre #[.bool d0,.bool ov,.bool lo,.bool d3,↑x.fl,↑d5,↑d6,↑s.rounds,↑d8,↑d9]);have FW:=lh hHeld.out.bel;go_wp2_with fail;exact bodyPost_ret (aI rfl _ _ (W.heap.size + 1) 282 _ _ rfl F1.out underlying282 rfl (by kernel_rfl)) rfl ⟨by rw [HT.out],FW.out⟩
  refine cns (fun K hK=>?_) .nil;go_simp;refine bck hK (bZ hHeld (aC _ _)) (fun hHeld=>?_);clear hK;refine rdy [10] ?_;refine cns (fun K hK=>?_) .nil;go_simp;refine (HSt.out _ hHeld.out.at_).mono ?_;rintro e w1 ⟨rfl,hb⟩;(first | (with_reducible have cc:=aA hb (nc1 _ s.began _)) | (with_reducible have cc:=aA hb (eK _ s.began _)) | (with_reducible have cc:=aA hb cc) | (with_reducible have cc:=aA hb (nc3 _ (W.heap.size + 1 + 1) s.began _ (by simp))) | (with_reducible have cc:=aA hb (aN (nc3 _ (W.heap.size + 1 + 1) s.began _ (by simp)))) | skip)
  go_wp2_with fail;refine bck hK (bZ hHeld hb) (fun hHeld=>?_);clear hK;refine rdy [14] ?_;refine cns (fun K hK=>?_) .nil;go_simp;refine (HHo.out _ hHeld.out.at_).mono ?_;rintro e w1 ⟨rfl,hb⟩;(first | (with_reducible have cc:=aA hb (nc1 _ s.began _)) | (with_reducible have cc:=aA hb (eK _ s.began _)) | (with_reducible have cc:=aA hb cc) | (with_reducible have cc:=aA hb (nc3 _ (W.heap.size + 1 + 1) s.began _ (by simp))) | (with_reducible have cc:=aA hb (aN (nc3 _ (W.heap.size + 1 + 1) s.began _ (by simp)))) | skip)
  go_wp2_with fail;refine bck hK (bZ hHeld hb) (fun hHeld=>?_);clear hK;refine rdy [19] ?_;refine cns (fun K hK=>?_) .nil;go_simp;refine (HRo.out _ hHeld.out.at_).mono ?_;rintro e w1 ⟨rfl,hb⟩;(first | (with_reducible have cc:=aA hb (nc1 _ s.began _)) | (with_reducible have cc:=aA hb (eK _ s.began _)) | (with_reducible have cc:=aA hb cc) | (with_reducible have cc:=aA hb (nc3 _ (W.heap.size + 1 + 1) s.began _ (by simp))) | (with_reducible have cc:=aA hb (aN (nc3 _ (W.heap.size + 1 + 1) s.began _ (by simp)))) | skip)
  go_wp2_with fail;refine bck hK (bZ hHeld hb) (fun hHeld=>?_);clear hK;refine rdy [31] ?_;refine cns (fun K hK=>?_) .nil;go_simp;refine (HSu.out _ _ (by first | with_reducible exact cc | (simp at cc;exact cc) | with_reducible exact nc1 _ _ _ | with_reducible exact eK _ _ _)).mono ?_;rintro e w1 ⟨rfl,hb⟩;go_wp2_with fail;refine bck hK (bZ hHeld hb) (fun hHeld=>?_);clear hK;refine rdy [40] ?_;refine cns (fun K hK=>?_) .nil;go_simp;refine (HCo.out _ hHeld.out.at_).mono ?_;rintro e w1 ⟨rfl,hb⟩;(first | (with_reducible have cc:=aA hb (nc1 _ s.began _)) | (with_reducible have cc:=aA hb (eK _ s.began _)) | (with_reducible have cc:=aA hb cc) | (with_reducible have cc:=aA hb (nc3 _ (W.heap.size + 1 + 1) s.began _ (by simp))) | (with_reducible have cc:=aA hb (aN (nc3 _ (W.heap.size + 1 + 1) s.began _ (by simp)))) | skip)
  go_wp2_with fail;refine bck hK (bZ hHeld hb) (fun hHeld=>?_);clear hK;refine rdy [46] ?_;refine cns (fun K hK=>?_) .nil;go_simp;refine (HWa.out _ hHeld.out.at_).mono ?_;rintro e w1 ⟨rfl,hb⟩;(first | (with_reducible have cc:=aA hb (nc1 _ s.began _)) | (with_reducible have cc:=aA hb (eK _ s.began _)) | (with_reducible have cc:=aA hb cc) | (with_reducible have cc:=aA hb (nc3 _ (W.heap.size + 1 + 1) s.began _ (by simp))) | (with_reducible have cc:=aA hb (aN (nc3 _ (W.heap.size + 1 + 1) s.began _ (by simp)))) | skip)
  go_wp2_with fail;refine bck hK (bZ hHeld hb) (fun hHeld=>?_);clear hK;refine tkc 47 ?_;refine rdy [48] ?_;refine cns (fun K hK=>?_) .nil;obtain ⟨cs,hsz,hre⟩:=hHeld.out.re;rw [if_pos (by rfl)];refine wp_store_row _ _ _ rfl (W.heap.size + 1) #[.bool d0,.bool ov,.bool lo,.bool d3,↑x.fl,↑d5,↑d6,↑s.rounds,↑d8,↑d9] rfl rfl _ cs hre (by kernel_rfl) hsz (by simp [Value.oneCell']) ?_;refine bck hK (kQ hHeld #[.bool d0,.bool ov,.bool lo,.bool d3,↑x.fl,↑d5,↑d6,↑s.rounds,↑d8,↑d9] rfl) (fun hHeld=>?_);clear hK;refine wpAnyH_done (by kernel_rfl) ?_ _;refine NoPanic.normal ?_;have F1:=lh (Blk.row hre #[.bool d0,.bool ov,.bool lo,.bool d3,↑x.fl,↑d5,↑d6,↑s.rounds,↑d8,↑d9]);have FW:=lh hHeld.out.bel;go_wp2_with fail;exact bodyPost_ret (aI rfl _ _ (W.heap.size + 1) 282 _ _ rfl F1.out underlying282 rfl (by kernel_rfl)) rfl ⟨by rw [HT.out],FW.out⟩
 refine cns (fun K hK=>?_) .nil;go_simp;refine bck hK (bZ hHeld (aC _ _)) (fun hHeld=>?_);clear hK;refine rdy [4] ?_;refine cns (fun K hK=>?_) .nil;go_simp;refine (HFu.out _ hHeld.out.at_).mono ?_;rintro e w1 ⟨rfl,hb⟩;(first | (with_reducible have cc:=aA hb (nc1 _ s.began _)) | (with_reducible have cc:=aA hb (eK _ s.began _)) | (with_reducible have cc:=aA hb cc) | (with_reducible have cc:=aA hb (nc3 _ (W.heap.size + 1 + 1) s.began _ (by simp))) | (with_reducible have cc:=aA hb (aN (nc3 _ (W.heap.size + 1 + 1) s.began _ (by simp)))) | skip)
 go_wp2_with fail;refine bck hK (bZ hHeld hb) (fun hHeld=>?_);clear hK;refine rdy [10] ?_;refine cns (fun K hK=>?_) .nil;go_simp;refine (HSt.out _ hHeld.out.at_).mono ?_;rintro e w1 ⟨rfl,hb⟩;(first | (with_reducible have cc:=aA hb (nc1 _ s.began _)) | (with_reducible have cc:=aA hb (eK _ s.began _)) | (with_reducible have cc:=aA hb cc) | (with_reducible have cc:=aA hb (nc3 _ (W.heap.size + 1 + 1) s.began _ (by simp))) | (with_reducible have cc:=aA hb (aN (nc3 _ (W.heap.size + 1 + 1) s.began _ (by simp)))) | skip)
 go_wp2_with fail;refine bck hK (bZ hHeld hb) (fun hHeld=>?_);clear hK;refine rdy [14] ?_;refine cns (fun K hK=>?_) .nil;go_simp;refine (HHo.out _ hHeld.out.at_).mono ?_;rintro e w1 ⟨rfl,hb⟩;(first | (with_reducible have cc:=aA hb (nc1 _ s.began _)) | (with_reducible have cc:=aA hb (eK _ s.began _)) | (with_reducible have cc:=aA hb cc) | (with_reducible have cc:=aA hb (nc3 _ (W.heap.size + 1 + 1) s.began _ (by simp))) | (with_reducible have cc:=aA hb (aN (nc3 _ (W.heap.size + 1 + 1) s.began _ (by simp)))) | skip)
 go_wp2_with fail;refine bck hK (bZ hHeld hb) (fun hHeld=>?_);clear hK;refine rdy [19] ?_;refine cns (fun K hK=>?_) .nil;go_simp;refine (HRo.out _ hHeld.out.at_).mono ?_;rintro e w1 ⟨rfl,hb⟩;(first | (with_reducible have cc:=aA hb (nc1 _ s.began _)) | (with_reducible have cc:=aA hb (eK _ s.began _)) | (with_reducible have cc:=aA hb cc) | (with_reducible have cc:=aA hb (nc3 _ (W.heap.size + 1 + 1) s.began _ (by simp))) | (with_reducible have cc:=aA hb (aN (nc3 _ (W.heap.size + 1 + 1) s.began _ (by simp)))) | skip)
 go_wp2_with fail;refine bck hK (bZ hHeld hb) (fun hHeld=>?_);clear hK;refine rdy [31] ?_;refine cns (fun K hK=>?_) .nil;go_simp;refine (HSu.out _ _ (by first | with_reducible exact cc | (simp at cc;exact cc) | with_reducible exact nc1 _ _ _ | with_reducible exact eK _ _ _)).mono ?_;rintro e w1 ⟨rfl,hb⟩;go_wp2_with fail;refine bck hK (bZ hHeld hb) (fun hHeld=>?_);clear hK;refine rdy [40] ?_;refine cns (fun K hK=>?_) .nil;go_simp;refine (HCo.out _ hHeld.out.at_).mono ?_;rintro e w1 ⟨rfl,hb⟩;(first | (with_reducible have cc:=aA hb (nc1 _ s.began _)) | (with_reducible have cc:=aA hb (eK _ s.began _)) | (with_reducible have cc:=aA hb cc) | (with_reducible have cc:=aA hb (nc3 _ (W.heap.size + 1 + 1) s.began _ (by simp))) | (with_reducible have cc:=aA hb (aN (nc3 _ (W.heap.size + 1 + 1) s.began _ (by simp)))) | skip)
 go_wp2_with fail;refine bck hK (bZ hHeld hb) (fun hHeld=>?_);clear hK;refine rdy [46] ?_;refine cns (fun K hK=>?_) .nil;go_simp;refine (HWa.out _ hHeld.out.at_).mono ?_;rintro e w1 ⟨rfl,hb⟩;(first | (with_reducible have cc:=aA hb (nc1 _ s.began _)) | (with_reducible have cc:=aA hb (eK _ s.began _)) | (with_reducible have cc:=aA hb cc) | (with_reducible have cc:=aA hb (nc3 _ (W.heap.size + 1 + 1) s.began _ (by simp))) | (with_reducible have cc:=aA hb (aN (nc3 _ (W.heap.size + 1 + 1) s.began _ (by simp)))) | skip)
 go_wp2_with fail;refine bck hK (bZ hHeld hb) (fun hHeld=>?_);clear hK;refine tkc 47 ?_;refine rdy [48] ?_;refine cns (fun K hK=>?_) .nil;obtain ⟨cs,hsz,hre⟩:=hHeld.out.re;rw [if_pos (by rfl)];refine wp_store_row _ _ _ rfl (W.heap.size + 1) #[.bool d0,.bool ov,.bool lo,.bool d3,↑x.fl,↑d5,↑d6,↑s.rounds,↑d8,↑d9] rfl rfl _ cs hre (by kernel_rfl) hsz (by simp [Value.oneCell']) ?_;refine bck hK (kQ hHeld #[.bool d0,.bool ov,.bool lo,.bool d3,↑x.fl,↑d5,↑d6,↑s.rounds,↑d8,↑d9] rfl) (fun hHeld=>?_);clear hK;refine wpAnyH_done (by kernel_rfl) ?_ _;refine NoPanic.normal ?_;have F1:=lh (Blk.row hre #[.bool d0,.bool ov,.bool lo,.bool d3,↑x.fl,↑d5,↑d6,↑s.rounds,↑d8,↑d9]);have FW:=lh hHeld.out.bel;go_wp2_with fail;exact bodyPost_ret (aI rfl _ _ (W.heap.size + 1) 282 _ _ rfl F1.out underlying282 rfl (by kernel_rfl)) rfl ⟨by rw [HT.out],FW.out⟩

theorem aG.set {w:World} {B:Nat} {P:EP} {s s':ES} (h:aG w B P s) (i:Nat) (u:Value) (he:(eE P s).setIfInBounds i u=eE P s') (hp:s'.p=s.p) (hf:s'.f=s.f) (hy:s'.y=s.y) (hn:s'.n=s.n):
  aG (w.setCell ⟨P.b,i,none⟩ u) B P s':=
 ⟨he▸h.e.set i u,hp▸h.p.set_other i u (h.p.ty h.e (by decide)),by
  obtain ⟨g,hg,k⟩:=h.f;obtain ⟨c1,k1⟩:=k.row.head;obtain ⟨c2,k2⟩:=k.row.body;exact ⟨g,hg,hf▸⟨k.head.set_other i u (k.head.ty h.e (by decide)),k.row.set_other (k1.ty h.e (by decide)) (k2.ty h.e (by decide))⟩⟩,
  hy▸Blk.set_other h.y i u (Blk.ty h.y h.e (by decide)),hn▸h.n.set_other i u (h.n.ty h.e (by decide)),
  h.gl.below (B:=B) ((Below.refl _ _).setCell (p:=⟨P.b,i,none⟩) h.own.1 u) h.lo,h.lo,h.own⟩
structure aZ (B:Nat) (P:EP) (v:Ending) (s':ES) (W:World) (e:Ending) (w:World):Prop where
 e:e=v
 at_:aG w B P s'
 bel:Below B W w
 kt:KT W w
structure aX (W:World) (B:Nat) (P:EP) (s:ES) (x:EvS) (w:World):Prop where
 at_:aG w B P s
 bel:Below B W w
 kt:KT W w
 ev:Blk w W.heap.size 137 x.cells
theorem aX.to {w:World} {P:EP} {s:ES} {x:EvS} (h:aX W B P s x w) (k:Below ↑w w w'):aX W B P s x w':=
 ⟨h.at_.keep k,aD h.bel k h.at_.size,h.kt.trans (KT.below k),h.ev.keep k⟩
theorem aX.drew {W w:World} {B:Nat} {P:EP} {s:ES} {x:EvS} (h:aX W B P s x w):aX W B P s x w.drew:=h.to ((aB.drew w).below _)
theorem aX.start {P:EP} {s:ES} (h:aG W B P s) (x:EvS):aX W B P s x (W.alloc (.cells x.cells 137)):=
 ⟨h.keep ((Below.refl _ _).alloc (Nat.le_refl _) _),(Below.refl _ _).alloc h.size _,KT.below ((Below.refl _ _).alloc (Nat.le_refl _) _),Blk.new W _ _⟩
theorem aX.set {W w:World} {B:Nat} {P:EP} {s s':ES} {x:EvS} (h:aX W B P s x w) (i:Nat) (u:Value) (he:(eE P s).setIfInBounds i u=eE P s') (hp:s'.p=s.p) (hf:s'.f=s.f) (hy:s'.y=s.y) (hn:s'.n=s.n):
  aX W B P s' x (w.setCell ⟨P.b,i,none⟩ u):=
 ⟨h.at_.set i u he hp hf hy hn,h.bel.setCell (p:=⟨P.b,i,none⟩) h.at_.own.1 u,h.kt.set h.at_.e (by decide) i u,h.ev.set_other i u (h.ev.ty h.at_.e (by decide))⟩
theorem aX.step {W w w':World} {B:Nat} {P:EP} {s s':ES} {x:EvS} {v e:Ending} (h:aX W B P s x w) (k:aZ B P v s' w e w'):aX W B P s' x w':=
 ⟨k.at_,h.bel.trans k.bel,h.kt.trans k.kt,k.kt _ (by decide) _ _ h.ev⟩
theorem aX.post {w:World} {P:EP} {s:ES} {x:EvS} (h:aX W B P s x w):aZ B P v s W v w:=⟨rfl,h.at_,h.bel,h.kt⟩
theorem aX.al {w:World} {P:EP} {s:ES} {x:EvS} (h:aX W B P s x w) (k:Below (w.alloc q).heap.size (w.alloc q) w'):aX W B P s x w':=(h.to (aC _ _)).to k
theorem aX.ald {w:World} {P:EP} {s:ES} {x:EvS} (h:aX W B P s x w) (k:Below (w.alloc q).drew.heap.size (w.alloc q).drew w'):aX W B P s x w':=(h.to (cM _ _)).to k
theorem GA {P:EP} {s:ES} (x:EvS) (hx:x.ok) (W:World) (h:aG W B P s) (ho:s.ok k):
  Calls prog 169 #[↑(π P.b),x.val] W (aZ B P (.returned (.tuple #[])) (s.count x) W):=by
 have HA:=lh (bS s.acked x.ac ho.acked hx.ac);have HL:=lh (bS s.lost x.lo ho.lost hx.lo);have M0:=lh (aX.start h x);unfold EvS.val;clear h ho hx;have HE:Hid (x.cells=#[↑x.now,↑x.sd,↑x.si,↑x.sr,↑x.rt,.bool x.sl,.bool x.sm,↑x.dl,↑x.ac,↑x.lo,↑x.fl]):=lh rfl;rw [HE.out] at M0 ⊢;go_enter func169,ntmps169;go_wp2_with fail;generalize W.alloc (.cells #[↑x.now,↑x.sd,↑x.si,↑x.sr,↑x.rt,.bool x.sl,.bool x.sm,↑x.dl,↑x.ac,↑x.lo,↑x.fl] 137)=w0 at *;have M1:=lh M0.out.drew;have e8:=M1.out.ev.cell (i:=8) (v:=↑x.ac) rfl;have c16:=(M1.out.at_).e.cell (i:=16) (v:=↑s.acked) rfl;go_region_with (first
  | (go_at_call 60;(refine (HA.out _ _ (by first | exact (nc2 _ _ _ _).1 | exact aN (nc2 _ _ _ _).1) (by first | exact (nc2 _ _ _ _).2 | exact aN (nc2 _ _ _ _).2)).mono ?_);rintro e w2 ⟨rfl,hb⟩;have M2:Hid (aX W B P _ x w2):=(by first | exact lh (M1.out.al hb) | exact lh (M1.out.ald hb));have d16:=M2.out.at_.e.cell (i:=16) (v:=↑s.acked) rfl;have y16:=M2.out.at_.e.free 16))
 all_goals
  have M3:=lh (M2.out.set (s':={s with acked:=Pl.addS s.acked x.ac}) 16 ↑(Pl.addS s.acked x.ac:Nat) rfl rfl rfl rfl rfl);clear M0 M1 M2 e8 c16 d16 y16 hb;generalize w2.setCell ⟨P.b,16,none⟩ ↑(Pl.addS s.acked x.ac:Nat)=w3 at *;go_wp2_with fail;have M4:=lh M3.out.drew;have e9:=M4.out.ev.cell (i:=9) (v:=↑x.lo) rfl;have c17:=M4.out.at_.e.cell (i:=17) (v:=↑s.lost) rfl;go_region_with (first
   | (go_at_call 60;(refine (HL.out _ _ (by first | exact (nc2 _ _ _ _).1 | exact aN (nc2 _ _ _ _).1) (by first | exact (nc2 _ _ _ _).2 | exact aN (nc2 _ _ _ _).2)).mono ?_);rintro e w2 ⟨rfl,hb⟩;have M5:Hid (aX W B P _ x w2):=(by first | exact lh (M4.out.al hb) | exact lh (M4.out.ald hb));have d17:=M5.out.at_.e.cell (i:=17) (v:=↑s.lost) rfl;have y17:=M5.out.at_.e.free 17))
  all_goals
   have M6:=lh (M5.out.set (s':=s.count x) 17 ↑(Pl.addS s.lost x.lo:Nat) rfl rfl rfl rfl rfl);go_wp2_with fail;go_end0
   exact M6.out.post

structure aY (W:World) (B:Nat) (P:EP) (s:ES) (w:World):Prop where
 at_:aG w B P s
 bel:Below B W w
 kt:KT W w
theorem aY.to {w:World} {P:EP} {s:ES} (h:aY W B P s w) (k:Below ↑w w w'):aY W B P s w':=
 ⟨h.at_.keep k,aD h.bel k h.at_.size,h.kt.trans (KT.below k)⟩
theorem aY.drew {W w:World} {B:Nat} {P:EP} {s:ES} (h:aY W B P s w):aY W B P s w.drew:=h.to ((aB.drew w).below _)
theorem aY.start {P:EP} {s:ES} (h:aG W B P s):aY W B P s W:=⟨h,Below.refl _ _,KT.refl _⟩
theorem aY.set {W w:World} {B:Nat} {P:EP} {s s':ES} (h:aY W B P s w) (i:Nat) (u:Value) (he:(eE P s).setIfInBounds i u=eE P s') (hp:s'.p=s.p) (hf:s'.f=s.f) (hy:s'.y=s.y) (hn:s'.n=s.n):
  aY W B P s' (w.setCell ⟨P.b,i,none⟩ u):=
 ⟨h.at_.set i u he hp hf hy hn,h.bel.setCell (p:=⟨P.b,i,none⟩) h.at_.own.1 u,h.kt.set h.at_.e (by decide) i u⟩
theorem aY.post {w:World} {P:EP} {s:ES} (h:aY W B P s w):aZ B P v s W v w:=⟨rfl,h.at_,h.bel,h.kt⟩
theorem aY.al {w:World} {P:EP} {s:ES} (h:aY W B P s w) (k:Below (w.alloc q).heap.size (w.alloc q) w'):aY W B P s w':=(h.to (aC _ _)).to k
theorem aY.ald {w:World} {P:EP} {s:ES} (h:aY W B P s w) (k:Below (w.alloc q).drew.heap.size (w.alloc q).drew w'):aY W B P s w':=(h.to (cM _ _)).to k
theorem SV (W:World) (b x:Nat) (y:Int) (T:TypeId) (hb:b=W.heap.size):(W.alloc (.cells #[↑x,.int .u64 y] T)).cell? ⟨b,0,none⟩=some ↑x∧(W.alloc (.cells #[↑x,.int .u64 y] T)).cell? ⟨b,1,none⟩=some (.int .u64 y):=by subst hb;exact ⟨aM rfl rfl,aM rfl rfl⟩
theorem aY.mi {w:World} {P:EP} {s s':ES} {x:EvS} (h:aX W B P s x w) (k:aY w B P s' w'):aX W B P s' x w':=
 ⟨k.at_,h.bel.trans k.bel,h.kt.trans k.kt,k.kt _ (by decide) _ _ h.ev⟩
theorem aY.cat {w:World} {P:EP} {s s':ES} (h:aY W B P s w) (k:aY w B P s' w'):aY W B P s' w':=⟨k.at_,h.bel.trans k.bel,h.kt.trans k.kt⟩
theorem Fr.of_gr {w:World} {c:Nat} (g:w.grownBy w' (some c)):Fr w w' [c]:=⟨g.os,g.tape,g.output,g.size,fun k hk hl=>g.block k hk (by simpa using hl)⟩
theorem aY.cy {w:World} {P:EP} {s:ES} {y':CY} (h:aG w B P s) (hy:kL w' P.y y') (g:w.grownBy w' (some P.y)):aY w B P {s with y:=y'} w':=by
 have k:=Fr.of_gr g;have hb:Below B w w':=jZ (Below.refl _ _) g h.size h.own.2.2.2.2.1;refine ⟨⟨h.e.fr k (by simpa using h.e.ty h.y (by decide)),h.p.fr k (by simpa using h.p.ty h.y (by decide)),?_,hy,h.n.fr k (by simpa using h.n.ty h.y (by decide)),h.gl.below hb h.lo,h.lo,h.own⟩,hb,KT.gr g h.y (by decide)⟩;obtain ⟨g',hg,q⟩:=h.f;obtain ⟨c1,k1⟩:=q.row.head;obtain ⟨c2,k2⟩:=q.row.body;exact ⟨g',hg,q.fr k (by simpa using q.head.ty h.y (by decide)) (by simpa using k1.ty h.y (by decide)) (by simpa using k2.ty h.y (by decide))⟩
theorem aY.ct {w:World} {P:EP} {s:ES} {n':Ct} (h:aG w B P s) (hy:Blk w' P.n 251 n'.cells) (g:w.grownBy w' (some P.n)):aY w B P {s with n:=n'} w':=by
 have k:=Fr.of_gr g;have hb:Below B w w':=jZ (Below.refl _ _) g h.size h.own.2.2.2.2.2;refine ⟨⟨h.e.fr k (by simpa using h.e.ty h.n (by decide)),h.p.fr k (by simpa using h.p.ty h.n (by decide)),?_,Blk.fr h.y k (by simpa using Blk.ty h.y h.n (by decide)),hy,h.gl.below hb h.lo,h.lo,h.own⟩,hb,KT.gr g h.n (by decide)⟩;obtain ⟨g',hg,q⟩:=h.f;obtain ⟨c1,k1⟩:=q.row.head;obtain ⟨c2,k2⟩:=q.row.body;exact ⟨g',hg,q.fr k (by simpa using q.head.ty h.n (by decide)) (by simpa using k1.ty h.n (by decide)) (by simpa using k2.ty h.n (by decide))⟩
theorem aY.pi {w:World} {P:EP} {s:ES} {p':Pi} (h:aG w B P s) (hy:Blk w' P.p 243 p'.cells) (g:w.grownBy w' (some P.p)):aY w B P {s with p:=p'} w':=by
 have k:=Fr.of_gr g;have hb:Below B w w':=jZ (Below.refl _ _) g h.size h.own.2.1;refine ⟨⟨h.e.fr k (by simpa using h.e.ty h.p (by decide)),hy,?_,Blk.fr h.y k (by simpa using Blk.ty h.y h.p (by decide)),h.n.fr k (by simpa using h.n.ty h.p (by decide)),h.gl.below hb h.lo,h.lo,h.own⟩,hb,KT.gr g h.p (by decide)⟩;obtain ⟨g',hg,q⟩:=h.f;obtain ⟨c1,k1⟩:=q.row.head;obtain ⟨c2,k2⟩:=q.row.body;exact ⟨g',hg,q.fr k (by simpa using q.head.ty h.p (by decide)) (by simpa using k1.ty h.p (by decide)) (by simpa using k2.ty h.p (by decide))⟩
theorem aY.fl {w:World} {g:Nat} {P:EP} {s:ES} {f':FS} {e:Ending} (h:aG w B P s) (hg:B≤g) (hf:dH w P.a P.r g s.f) (k:mH w P.a P.r g v f' e w'):aY w B P {s with f:=f'} w':=by
 obtain ⟨g',hf',hg'⟩:=k.at_;obtain ⟨c1,k1⟩:=hf.row.head;obtain ⟨c2,k2⟩:=hf.row.body;have hB:=h.size;have hb:Below B w w':=nE (Below.refl _ _) k.fr hB (by
  intro x hx;simp only [List.mem_cons,List.not_mem_nil,or_false] at hx;rcases hx with rfl | rfl | rfl
  ·exact h.own.2.2.1
  ·exact h.own.2.2.2.1
  ·exact hg)
 refine ⟨⟨h.e.fr k.fr ?_,h.p.fr k.fr ?_,⟨g',by omega,hf'⟩,Blk.fr h.y k.fr ?_,h.n.fr k.fr ?_,h.gl.below hb h.lo,h.lo,h.own⟩,hb,fun T hT b cs q=>q.fr k.fr ?_⟩
 ·simpa using ⟨h.e.ty hf.head (by decide),h.e.ty k1 (by decide),h.e.ty k2 (by decide)⟩
 ·simpa using ⟨h.p.ty hf.head (by decide),h.p.ty k1 (by decide),h.p.ty k2 (by decide)⟩
 ·simpa using ⟨Blk.ty h.y hf.head (by decide),Blk.ty h.y k1 (by decide),Blk.ty h.y k2 (by decide)⟩
 ·simpa using ⟨h.n.ty hf.head (by decide),h.n.ty k1 (by decide),h.n.ty k2 (by decide)⟩
 ·simpa using ⟨q.ty hf.head (fun e=>hT (e▸by decide)),q.ty k1 (fun e=>hT (e▸by decide)),q.ty k2 (fun e=>hT (e▸by decide))⟩
theorem AZ {w:World} {P:EP} {s:ES} (h:Hid (aY W B P s w)):w.cell? ⟨P.b,17,none⟩=some ↑s.lost∧w.cell? ⟨P.b,5,none⟩=some ↑(s.c 5)∧Hid (aY W B P s w):=
 ⟨h.out.at_.e.cell rfl,h.out.at_.e.cell rfl,h⟩
theorem A3 {P:EP} {s:ES} (W:World) (h:aG W B P s) (ho:s.ok k):
  Calls prog 171 #[↑(π P.b)] W (aZ B P (.returned (.bool s.lossy)) s.settle W):=by
 have HA:=lh (bS s.acked s.lost ho.acked ho.lost);have HR:Hid (∀(b:Nat) (W:World),W.cell? ⟨b,0,none⟩=some ↑s.rounds→W.cell? ⟨b,1,none⟩=some (.int .u64 1)→Calls prog 60 #[.slice (some ⟨b,0,none⟩) 2 2] W fun e w'=>e=.returned ↑(Pl.addS s.rounds 1:Nat)∧Below ↑W W w'):=lh (bS s.rounds 1 ho.rounds (by omega));have HM:Hid (∀w,Calls prog 131 #[↑s.lost,.int .u64 1000] w fun e w'=>e=.returned ↑(Pl.mulS s.lost 1000:Nat)∧w=w'):=lh (fun w=>cD s.lost 1000 w ho.lost (by omega));have HN:=lh (fun w=>cD (s.c 5) (Pl.addS s.acked s.lost) w (ho.c 5) (Pl.addS_le _ _));have hd:decide (Pl.mulS (s.c 5) (Pl.addS s.acked s.lost) < Pl.mulS s.lost 1000)=s.lossy:=rfl;have M0:=lh (aY.start h).drew;clear h ho;generalize s.lossy=lossy at *;generalize Pl.mulS (s.c 5) (Pl.addS s.acked s.lost)=m2 at *;generalize Pl.mulS s.lost 1000=m1 at *;go_enter func171,ntmps171;go_wp2_with fail;have c16:=M0.out.at_.e.cell (i:=16) (v:=↑s.acked) rfl;have c17:=M0.out.at_.e.cell (i:=17) (v:=↑s.lost) rfl;go_region_with (first
  | (go_at_call 60;(refine (HA.out _ _ (by first | exact (nc2 _ _ _ _).1 | exact aN (nc2 _ _ _ _).1) (by first | exact (nc2 _ _ _ _).2 | exact aN (nc2 _ _ _ _).2)).mono ?_);rintro e w2 ⟨rfl,hb⟩;have M2:Hid (aY W B P _ w2):=(by first | exact lh (M0.out.al hb) | exact lh (M0.out.ald hb));))
 all_goals
  clear M0 c16 c17 hb HA;go_wp2_with fail;have M3:=lh M2.out.drew;go_region_held3 (fun w'=>w'.cell? ⟨P.b,17,none⟩=some ↑s.lost∧w'.cell? ⟨P.b,5,none⟩=some ↑(s.c 5)∧Hid (aY W B P s w'))
   (first | exact AZ M3)
   (first
    | (go_at_call 131;go_split_ands;(with_reducible refine (HM.out _).mono ?_);rintro e w' ⟨rfl,rfl⟩)
    | (go_at_call 131;go_split_ands;(with_reducible refine (HN.out _).mono ?_);rintro e w' ⟨rfl,rfl⟩))
  go_split_ands
  have M4:Hid (aY W B P s w2):=M2;have y15:=M4.out.at_.e.free 15;have y16:=M4.out.at_.e.free 16;have y17:=M4.out.at_.e.free 17;have d15:=M4.out.at_.e.cell (i:=15) (v:=↑s.rounds) rfl;have d16:=M4.out.at_.e.cell (i:=16) (v:=↑s.acked) rfl;have d17:=M4.out.at_.e.cell (i:=17) (v:=↑s.lost) rfl;have M5:=lh ((M4.out.set (s':={s with acked:=0}) 16 ↑ζ rfl rfl rfl rfl rfl).set (s':={s with acked:=0,lost:=0}) 17 ↑ζ rfl rfl rfl rfl rfl);go_wp2_with fail;refine (HR.out _ _ (by exact (SV _ _ _ _ _ (by simp)).1) (by exact (SV _ _ _ _ _ (by simp)).2)).mono ?_;rintro e w6 ⟨rfl,hb⟩;have M6:Hid (aY W B P {s with acked:=0,lost:=0} w6):=(by first | exact lh (M5.out.al hb) | exact lh (M5.out.ald hb) | exact lh (M5.out.drew.al hb) | exact lh (M5.out.drew.ald hb));have z15:=M6.out.at_.e.cell (i:=15) (v:=↑s.rounds) rfl;have q15:=M6.out.at_.e.free 15;have M7:=lh (M6.out.set (s':=s.settle) 15 ↑(Pl.addS s.rounds 1:Nat) rfl rfl rfl rfl rfl);clear M2 M3 M4 M5 M6 hb y15 y16 y17 d15 d16 d17;go_wp2_with fail;go_ret;exact ⟨rfl,M7.out.at_,M7.out.bel,M7.out.kt⟩
end
end Go.Proofs.YtjhiooggnpbecaaGreatDoor
