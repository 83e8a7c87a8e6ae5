/- Lemmas. -/
import Derived.Test.YtjhiooggnpbecaaGreatDoorK409
import Derived.Test.YtjhiooggnpbecaaGreatDoorK417
set_option linter.unusedVariables false
set_option maxHeartbeats 2000000
set_option maxRecDepth 100000
namespace Go.Proofs.YtjhiooggnpbecaaGreatDoor
open Tryz
variable {ds:Array Value} {i k:Nat} {q:Obj} {U:TypeId} {v:Value} {W w':World}
section
open Go.RowKit Go.Shelf Cf Pl
def lX:Setup:=fun k=>[1500,10,3,10000000,200000,20].getD k.val 0
theorem qF (w:World):Calls prog 35 #[] w fun e w'=>e=.returned (.agg (aL lX))∧Below ↑w w w':=by
 go_enter func35,ntmps35;go_wp2;exact bodyPost_ret (v:=.agg (aL lX)) (by simp [results,Tryz.results35,go_sem,aL,show lX 0=1500 from rfl,show lX 1=10 from rfl,show lX 2=3 from rfl,show lX 3=10000000 from rfl,show lX 4=200000 from rfl,show lX 5=20 from rfl]) rfl ⟨rfl,(Below.refl _ _).alloc (Nat.le_refl _) _⟩
theorem fI (c:Setup) (n:Nat) (w:World) (hc:c 0≤↑ω) (hn:n≤↑ω):
  Calls prog 84 #[.agg (aL c),↑n] w fun e w'=>e=.returned (.int .u64 (mulS n (c 0):Nat))∧Below ↑w w w':=by
 have HM:=lh (cB n (c 0) (w.alloc (.cells (aL c) 24)) hn hc);simp only [aL] at HM ⊢;go_enter func84,ntmps84;go_wp2_with (go_at_call 131;refine HM.out.mono ?_;rintro e w1 ⟨rfl,rfl⟩)
 go_ret;exact ⟨rfl,(Below.refl _ _).alloc (Nat.le_refl _) _⟩
theorem lS (r t:Nat) (w:World) (hr:r≤↑ω) (ht:t≤↑ω):
  Calls prog 262 #[↑r,↑t] w fun e w'=>e=.returned (.int .u64 (overS r t 1000000:Nat))∧Below ↑w w w':=by
 have HM:=lh (iB r t 1000000 w hr ht (by omega));go_enter func262,ntmps262;go_wp2_with (go_at_call 144;refine HM.out.mono ?_;rintro e w1 ⟨rfl,hb⟩)
 go_ret;exact ⟨rfl,hb⟩
theorem zO (W:World):Below ↑W W W.drew:=⟨rfl,rfl,rfl,Nat.le_refl _,fun _ _=>rfl⟩
structure QuS (w:World) (c:Setup) (w':World):Prop where
 b:Blk w' w.heap.size 24 (aL c)
 g:Below ↑w w w'
theorem QuS.keep {w w1 w2:World} {c:Setup} (h:QuS w c w1) (hb:Below ↑w1 w1 w2):QuS w c w2:=⟨h.b.keep hb,aD h.g hb h.g.size⟩
theorem mY {w:World} {c:Setup} (h:QuS w c w'):w'.cell? ⟨w.heap.size,0,none⟩=some ↑(c 0)∧w'.cell? ⟨w.heap.size,1,none⟩=some ↑(c 1)∧w'.cell? ⟨w.heap.size,2,none⟩=some ↑(c 2)∧w'.cell? ⟨w.heap.size,3,none⟩=some ↑(c 3)∧w'.cell? ⟨w.heap.size,4,none⟩=some ↑(c 4)∧w'.cell? ⟨w.heap.size,5,none⟩=some ↑(c 5)∧Hid (QuS w c w'):=
 ⟨mL h.b 0,mL h.b 1,mL h.b 2,mL h.b 3,mL h.b 4,mL h.b 5,h⟩
theorem zP (r p2 p64:Nat) (hr:r≤↑ω):(min (max (IntKind.u64.wrap ((r:Int) / 1000)) (p2:Int)) (p64:Int))=((min (max (r / 1000) p2) p64:Nat):Int):=by
 have h:IntKind.u64.wrap ((r:Int) / 1000)=((r / 1000:Nat):Int):=by rw [IntKind.wrap_u64];omega
 rw [h];omega
def iK (m r:Nat):Nat:=min (max (r / 1000) (mulS 2 m)) (mulS 64 m)
theorem qG (c:Setup) (r:Nat) (w:World) (hc:c 0≤↑ω) (hr:r≤↑ω):
  Calls prog 42 #[.agg (aL c),↑r] w fun e w'=>e=.returned (.int .u64 (iK (c 0) r:Nat))∧Below ↑w w w':=by
 have h2:∀w',Calls prog 84 #[.agg (aL c),.int .u64 2] w' fun e w''=>e=.returned (.int .u64 (mulS 2 (c 0):Nat))∧Below ↑w' w' w'':=fun w'=>fI c 2 w' hc (by omega);have h64:∀w',Calls prog 84 #[.agg (aL c),.int .u64 64] w' fun e w''=>e=.returned (.int .u64 (mulS 64 (c 0):Nat))∧Below ↑w' w' w'':=fun w'=>fI c 64 w' hc (by omega);have H2:=lh h2;have H64:=lh h64;have B0:=lh (Blk.new w 24 (aL c));have G0:=lh ((Below.refl w.heap.size w).alloc (Nat.le_refl _) (.cells (aL c) 24));clear hc h2 h64;unfold iK;generalize mulS 2 (c 0)=p2 at *;generalize mulS 64 (c 0)=p64 at *;simp only [aL] at H2 H64 B0 G0 ⊢;go_enter func42,ntmps42;go_wp2_with fail;generalize w.alloc (.cells #[↑(c 0),↑(c 1),↑(c 2),↑(c 3),↑(c 4),↑(c 5)] 24)=w0 at *;have C0':QuS w c w0.drew:=⟨B0.out.drew,aD G0.out (zO w0) G0.out.size⟩;have q:=mY C0';clear C0';go_region_held3 (fun w'=>w'.cell? ⟨w.heap.size,0,none⟩=some ↑(c 0)∧w'.cell? ⟨w.heap.size,1,none⟩=some ↑(c 1)∧w'.cell? ⟨w.heap.size,2,none⟩=some ↑(c 2)∧w'.cell? ⟨w.heap.size,3,none⟩=some ↑(c 3)∧w'.cell? ⟨w.heap.size,4,none⟩=some ↑(c 4)∧w'.cell? ⟨w.heap.size,5,none⟩=some ↑(c 5)∧Hid (QuS w c w'))
  (first | exact q | assumption | (go_split_ands;exact mY (QuS.keep (Hid.out (by assumption)) hb)) | (go_split_ands;exact mY (Hid.out (by assumption))))
  (first
   | (go_at_call 84;((with_reducible refine (H2.out _).mono ?_);rintro e w' ⟨rfl,hb⟩))
   | (go_at_call 84;((with_reducible refine (H64.out _).mono ?_);rintro e w' ⟨rfl,hb⟩)))
 all_goals
  go_split_ands
  have hq:=(Hid.out ‹Hid (QuS w c w')›).g;go_wp2;go_ret;exact ⟨bH (zP r p2 p64 hr),hq⟩
end

section
open Go.RowKit Cf
structure EvS where
 now:Nat
 sd:Nat
 si:Nat
 sr:Nat
 rt:Nat
 sl:Bool
 sm:Bool
 dl:Nat
 ac:Nat
 lo:Nat
 fl:Nat
structure EvS.ok (x:EvS):Prop where
 now:x.now≤↑ω
 sd:x.sd≤↑ω
 si:x.si≤↑ω
 sr:x.sr≤↑ω
 rt:x.rt≤↑ω
 dl:x.dl≤↑ω
 ac:x.ac≤↑ω
 lo:x.lo≤↑ω
 fl:x.fl≤↑ω
structure ES where
 c:Setup
 p:Pi
 bs:BS
 f:FS
 y:CY
 n:Ct
 st:Int
 began:Nat
 rounds:Nat
 acked:Nat
 lost:Nat
 cwnd:Nat
 kept:Nat
 ended:Nat
def dE (c:Setup):Nat:=Pl.mulS (c 1) (c 0)
def cS (c:Setup):Nat:=Pl.mulS 4 (c 0)
def ES.trip (s:ES):Nat:=if s.f.some=true then s.f.best.x else 1000
def ES.rate (s:ES):Nat:=if s.y.best=0 then Pl.shareS (dE s.c) 1000000 s.trip else s.y.best
def ES.holds (s:ES):Nat:=Pl.overS s.rate s.trip 1000000
def ES.uses (s:ES):Nat:=Pl.overS (s.bs.limit s.rate) s.trip 1000000
def ES.pace (s:ES):Nat:=min (max (jZ (stG s.st) (s.bs.limit s.rate)) (cS s.c)) 1099511627776
def ES.quant (s:ES):Nat:=iK (s.c 0) s.pace
def ES.stale (s:ES) (now:Nat):Bool:=s.f.some && decide (s.c 3 / 2 < Pl.subS now (max s.f.best.t s.ended))
def ES.count (s:ES) (x:EvS):ES:={s with acked:=Pl.addS s.acked x.ac,lost:=Pl.addS s.lost x.lo}
def ES.rput (s:ES) (x:EvS):Bool:=!x.sl || decide (s.y.best≤x.sr)
def ES.mea (s:ES) (x:EvS):ES:=
 if x.sm=true then {s with f:=s.f.put x.now x.rt,y:=if s.rput x=true then s.y.put [x.sr] else s.y,n:=s.n.ackS (Pl.subS x.dl x.sd) x.dl}
 else {s with f:=s.f.to x.now}
def ES.over (s:ES) (x:EvS):Bool:=x.sm && s.n.ackB (Pl.subS x.dl x.sd)
def ES.lossy (s:ES):Bool:=decide (Pl.mulS (s.c 5) (Pl.addS s.acked s.lost) < Pl.mulS s.lost 1000)
def ES.settle (s:ES):ES:={s with acked:=0,lost:=0,rounds:=Pl.addS s.rounds 1}
def ES.pput (s:ES) (o l:Bool):ES:={s with p:=s.p.put s.y.best o l}
def ES.yield (s:ES) (x:EvS):ES:={s with bs:=if s.st=0∨s.st=5 then s.bs.pull x.fl s.holds else s.bs.lose x.sd x.sr s.cwnd}
def ES.sig (s:ES) (x:EvS) (o l:Bool):aV:=⟨s.p.full,o,l,s.stale x.now,x.fl,s.holds,s.bs.room,s.rounds,Pl.subS x.now s.began,iI s.st s.y.n (s.c 4)⟩
def ES.side (s:ES) (now:Nat) (t:Int):ES:=
 if s.st=6 then {s with ended:=now,cwnd:=max s.cwnd s.kept}
 else if t=6 then {s with kept:=s.cwnd}
 else if t=4 then {s with bs:=s.bs.short}
 else if s.st=5∧t=2 then {s with y:=s.y.next}
 else s
def ES.turn (s:ES) (now:Nat) (t:Int):ES:=if t=s.st then s else {s.side now t with st:=t,began:=now,rounds:=0}
def ES.push (s:ES) (x:EvS):ES:={s with bs:=s.bs.push x.ac}
def ES.o1 (s:ES) (ac:Nat):Nat:=if s.st≠0∨s.p.full=true then min (Pl.addS s.cwnd ac) (Pl.addS (dS (stG s.st) s.uses) s.quant) else Pl.addS s.cwnd ac
def ES.o2 (s:ES) (ac:Nat):Nat:=s.bs.cap [s.o1 ac]
def ES.o3 (s:ES) (ac:Nat):Nat:=if s.st=2∨s.st=3 then min (s.o2 ac) s.bs.room else if s.st=6 then min (s.o2 ac) (dS (stG s.st) s.uses) else s.o2 ac
def ES.open (s:ES) (ac:Nat):Nat:=min (max (s.o3 ac) (cS s.c)) 72057594037927936
def ES.e3 (s:ES) (x:EvS):ES:=if (s.count x).over x=true then ((s.count x).mea x).settle else (s.count x).mea x
def ES.eo (s:ES) (x:EvS):Bool:=(s.count x).over x
def ES.el (s:ES) (x:EvS):Bool:=s.eo x && ((s.count x).mea x).lossy
def ES.e4 (s:ES) (x:EvS):ES:=if x.sm=true then (s.e3 x).pput (s.eo x) x.sl else s.e3 x
def ES.e5 (s:ES) (x:EvS):ES:=if s.el x=true then (s.e4 x).yield x else s.e4 x
def ES.e6 (s:ES) (x:EvS):ES:=(s.e5 x).turn x.now (fG (s.e5 x).st ((s.e5 x).sig x (s.eo x) (s.el x)))
def ES.e7 (s:ES) (x:EvS):ES:=if (s.e6 x).st=5∧s.el x=false then (s.e6 x).push x else s.e6 x
def ES.on (s:ES) (x:EvS):ES:={s.e7 x with cwnd:=(s.e7 x).open x.ac}
structure ES.ok (s:ES) (k:Nat):Prop where
 c:∀i,s.c i≤↑ω
 p:s.p.ok
 bs:s.bs.ok
 f:s.f.ok
 fn:s.f.l.length≤k
 fx:∀r∈s.f.l,r.x≤↑ω
 ya:s.y.a≤↑ω
 yt:s.y.t≤↑ω
 yn:s.y.n≤↑ω
 nm:s.n.mark≤↑ω
 nn:s.n.n≤k
 st:0≤s.st∧s.st≤6
 began:s.began≤↑ω
 rounds:s.rounds≤↑ω
 acked:s.acked≤↑ω
 lost:s.lost≤↑ω
 cwnd:s.cwnd≤↑ω
 kept:s.kept≤↑ω
 ended:s.ended≤↑ω
theorem FS.to_x {f:FS} {t:Nat} {B:Nat} (h:∀r∈f.l,r.x≤B):∀r∈(f.to t).l,r.x≤B:=by
 unfold FS.to;split
 ·exact h
 ·exact fun r hr=>h r ((List.dropWhile_sublist _).subset hr)
theorem FS.put_x {f:FS} {t x:Nat} {B:Nat} (h:∀r∈f.l,r.x≤B) (hx:x≤B):∀r∈(f.put t x).l,r.x≤B:=by
 have h2:=FS.to_x (t:=t) h;unfold FS.put;split
 ·exact h
 ·intro r hr
  simp only [List.mem_append,List.mem_singleton] at hr;rcases hr with hr | rfl
  ·obtain ⟨q,hq,_⟩:=gR (bt f.least ⟨t,x⟩) (f.to t).l
   exact h2 r (by rw [hq];exact List.mem_append_left _ hr)
  ·exact hx
theorem FS.best_x {f:FS} {B:Nat} (h:∀r∈f.l,r.x≤B):f.best.x≤B:=by
 unfold FS.best
 match hl:f.l with
 | []=>exact Nat.zero_le _
 | r :: _=>exact h r (by rw [hl];exact List.mem_cons_self)
theorem FS.best_t {f:FS} (h:f.ok):f.best.t≤18446744073709551615:=by
 unfold FS.best
 match hl:f.l with
 | []=>exact Nat.zero_le _
 | r :: _=>exact h.l r (by rw [hl];exact List.mem_cons_self)
theorem CY.best_le {y:CY} {B:Nat} (ha:y.a≤B) (ht:y.t≤B):y.best≤B:=by unfold CY.best;omega
theorem ES.trip_le {s:ES} (h:s.ok k):s.trip≤18446744073709551615:=by
 have:=FS.best_x h.fx;unfold ES.trip;split <;> omega
theorem ES.rate_le {s:ES} (h:s.ok k):s.rate≤18446744073709551615:=by
 have:=CY.best_le h.ya h.yt;have:=Pl.shareS_le (dE s.c) 1000000 s.trip;unfold ES.rate;split <;> omega
theorem ES.limit_le {s:ES} (h:s.ok k):s.bs.limit s.rate≤18446744073709551615:=by
 have:=ES.rate_le h;unfold BS.limit;omega
theorem ES.holds_le (s:ES):s.holds≤18446744073709551615:=Pl.overS_le _ _ _
theorem ES.uses_le (s:ES):s.uses≤18446744073709551615:=Pl.overS_le _ _ _
theorem ES.pace_le (s:ES):s.pace≤1099511627776:=Nat.min_le_right _ _
theorem uZ (k x:Nat):dS k x≤18446744073709551615:=Pl.overS_le _ _ _
theorem oV (c:Setup):dE c≤18446744073709551615:=Pl.mulS_le _ _
theorem ES.quant_le (s:ES):s.quant≤18446744073709551615:=by
 have:=Pl.mulS_le 64 (s.c 0);unfold ES.quant iK;omega
theorem BS.room_le {b:BS} (h:b.ok):b.room≤18446744073709551615:=by
 unfold BS.room;split
 ·exact Nat.le_refl _
 ·exact Pl.shareS_le _ _ _
theorem EI (s:Int) (n p:Nat) (hp:p≤↑ω):iI s n p≤18446744073709551615:=by
 have:n % 8 < 8:=Nat.mod_lt _ (by omega);unfold iI;split
 ·omega
 ·split <;> omega
theorem EJ (s:Int) (x:aV) (h:0≤s∧s≤6):0≤fG s x∧fG s x≤6:=by
 have h1:=(qC s x).2;have h2:bJ s=true:=by unfold bJ;simp;omega
 rw [h2] at h1;unfold bJ at h1;simpa using h1
theorem ES.sig_ok {s:ES} (h:s.ok k) {x:EvS} (hx:x.ok) (o l:Bool):(s.sig x o l).ok:=
 ⟨hx.fl,s.holds_le,BS.room_le h.bs,h.rounds,Nat.le_trans (Pl.subS_le _ _) hx.now,EI _ _ _ (h.c 4)⟩
theorem ES.count_ok {s:ES} (h:s.ok k) (x:EvS):(s.count x).ok k:=
 {h with acked:=Pl.addS_le _ _,lost:=Pl.addS_le _ _}
theorem ES.mea_ok {s:ES} (h:s.ok k) {x:EvS} (hx:x.ok) (hk:k≤900):(s.mea x).ok (k + 1):=by
 have hn:=h.fn;have hb:s.n.n≤k + 1:=Nat.le_succ_of_le h.nn;unfold ES.mea;split
 ·refine {h with f:=FS.put_ok h.f hx.now (by omega),fn:=Nat.le_trans (FS.put_len _ _ _) (by omega),fx:=FS.put_x h.fx hx.rt,ya:=?_,yt:=?_,yn:=?_,nm:=?_,nn:=?_}
  ·dsimp only;split
   ·exact h.ya
   ·exact h.ya
  ·dsimp only;split
   ·exact NU h.yt (by simp;exact hx.sr)
   ·exact h.yt
  ·dsimp only;split
   ·exact h.yn
   ·exact h.yn
  ·unfold Ct.ackS;dsimp only;split
   ·exact hx.dl
   ·exact h.nm
  ·have:=Ct.ackS_n s.n (Pl.subS x.dl x.sd) x.dl
   have:=h.nn;dsimp only;omega
 ·exact {h with f:=FS.to_ok h.f hx.now,fn:=Nat.le_trans (FS.to_len _ _) (by omega),fx:=FS.to_x h.fx,nn:=hb}
theorem ES.settle_ok {s:ES} (h:s.ok k):s.settle.ok k:={h with acked:=Nat.zero_le _,lost:=Nat.zero_le _,rounds:=Pl.addS_le _ _}
theorem ES.pput_ok {s:ES} (h:s.ok k) (o l:Bool):(s.pput o l).ok k:={h with p:=Pi.put_ok h.p (CY.best_le h.ya h.yt) o l}
theorem ES.yield_ok {s:ES} (h:s.ok k) {x:EvS} (hx:x.ok):(s.yield x).ok k:=
 {h with bs:=by unfold ES.yield;dsimp only;split;exact BS.pull_ok h.bs hx.fl;exact BS.lose_ok h.bs hx.sd hx.sr}
theorem BS.short_ok {b:BS} (h:b.ok):b.short.ok:=⟨h.hi,Nat.le_refl _,Nat.le_refl _⟩
theorem ES.side_ok {s:ES} (h:s.ok k) {now:Nat} (hn:now≤↑ω) (t:Int):(s.side now t).ok k:=by
 have h1:=h.cwnd;have h2:=h.kept;unfold ES.side;split
 ·exact {h with ended:=hn,cwnd:=by dsimp only;omega}
 ·split
  ·exact {h with kept:=h.cwnd}
  ·split
   ·exact {h with bs:=BS.short_ok h.bs}
   ·split
    ·refine {h with ya:=h.yt,yt:=Nat.zero_le _,yn:=?_}
     have:=Nat.mod_lt (s.y.n + 1) (show 0 < 18446744073709551616 by omega);show (s.y.n + 1) % 18446744073709551616≤_
     omega
    ·exact h
theorem ES.turn_ok {s:ES} (h:s.ok k) {now:Nat} (hn:now≤↑ω) {t:Int} (ht:0≤t∧t≤6):(s.turn now t).ok k:=by
 unfold ES.turn;split
 ·exact h
 ·exact {ES.side_ok h hn t with st:=ht,began:=hn,rounds:=Nat.zero_le _}
theorem ES.push_ok {s:ES} {k:Nat} (h:s.ok k) (x:EvS):(s.push x).ok k:={h with bs:=BS.push_ok h.bs _}
theorem ES.open_le (s:ES) (ac:Nat):s.open ac≤72057594037927936:=Nat.min_le_right _ _
theorem ES.e3_ok {s:ES} (h:s.ok k) {x:EvS} (hx:x.ok) (hk:k≤900):(s.e3 x).ok (k + 1):=by
 have:=ES.mea_ok (ES.count_ok h x) hx hk;unfold ES.e3;split
 ·exact ES.settle_ok this
 ·exact this
theorem ES.e4_ok {s:ES} (h:s.ok k) {x:EvS} (hx:x.ok) (hk:k≤900):(s.e4 x).ok (k + 1):=by
 have:=ES.e3_ok h hx hk;unfold ES.e4;split
 ·exact ES.pput_ok this _ _
 ·exact this
theorem ES.e5_ok {s:ES} (h:s.ok k) {x:EvS} (hx:x.ok) (hk:k≤900):(s.e5 x).ok (k + 1):=by
 have:=ES.e4_ok h hx hk;unfold ES.e5;split
 ·exact ES.yield_ok this hx
 ·exact this
theorem ES.e6_ok {s:ES} (h:s.ok k) {x:EvS} (hx:x.ok) (hk:k≤900):(s.e6 x).ok (k + 1):=by
 have h5:=ES.e5_ok h hx hk;exact ES.turn_ok h5 hx.now (EJ _ _ h5.st)
theorem ES.e7_ok {s:ES} (h:s.ok k) {x:EvS} (hx:x.ok) (hk:k≤900):(s.e7 x).ok (k + 1):=by
 have:=ES.e6_ok h hx hk;unfold ES.e7;split
 ·exact ES.push_ok this _
 ·exact this
theorem ES.on_ok {s:ES} (h:s.ok k) {x:EvS} (hx:x.ok) (hk:k≤900):(s.on x).ok (k + 1):=
 {ES.e7_ok h hx hk with cwnd:=Nat.le_trans (ES.open_le _ _) (by omega)}
def ES.new (c:Setup):ES:=⟨c,Pi.zero,BS.none,⟨c 3,0,true,[]⟩,⟨0,0,0⟩,Ct.zero,0,0,0,0,0,dE c,0,0⟩
theorem ES.new_ok {c:Setup} (h:∀i,c i≤↑ω):(ES.new c).ok 0:=
 ⟨h,⟨Nat.zero_le _,Nat.zero_le _⟩,BS.none_ok,⟨h 3,Nat.zero_le _,by simp [ES.new],by simp [ES.new]⟩,Nat.le_refl _,by simp [ES.new],Nat.zero_le _,Nat.zero_le _,Nat.zero_le _,Nat.zero_le _,Nat.le_refl _,⟨show (0:Int)≤0 by decide,show (0:Int)≤6 by decide⟩,Nat.zero_le _,Nat.zero_le _,Nat.zero_le _,Nat.zero_le _,oV _,Nat.zero_le _,Nat.zero_le _⟩

def PL.fl (l:PL):Nat:=aT 0 l.out
structure SN where
 c:CS
 L:PL
 t:TS
 a:RaS
 e:ES
 p:PS
 w:Nat
namespace SN
def new (c:Setup):SN:=⟨CS.zero,⟨[],0,c 2,0,false⟩,TS.zero,RaS.zero,ES.new c,PS.zero,0⟩
def isLost (s:SN) (p:Pk):Bool:=s.L.lostB s.c.t s.t.del s.t.lim p
def lostL (s:SN):List Pk:=s.L.out.filter s.isLost
def keptL (s:SN):List Pk:=s.L.out.filter fun p=>!s.isLost p
def loss (s:SN):SN:={s with L:={s.L with out:=s.keptL},w:=Pl.addS s.w (aT 0 s.lostL),t:=if s.lostL≠[]∧s.keptL=[] then s.t.dbl else s.t}
def tell (s:SN) (now lost:Nat) (b:Bool):SN:=if b=true then {s with e:=s.e.on ⟨now,0,0,0,0,false,false,s.a.n,0,lost,s.L.fl⟩} else s
def size (s:SN):Nat:=min (s.e.c 0) s.w
def fits (s:SN):Bool:=decide (0 < s.w) && decide (Pl.addS s.L.fl s.size≤s.e.cwnd)
def goes (s:SN):Bool:=s.fits && s.p.takeB s.size
def stamp (s:SN):RaS:=s.a.stampS s.c.t s.L.fl
def pk (s:SN):Pk:=⟨s.L.next,s.size,s.c.t,s.stamp.first,s.stamp.n,s.stamp.last,decide (s.stamp.mark≠0)⟩
def go1 (s:SN):SN:={s with w:=s.w - s.size,p:=s.p.takeS s.size,a:=s.stamp,L:={s.L with out:=s.L.out ++ [s.pk],next:=s.L.next + 1}}
def gos:Nat→SN→SN × List Pk
 | 0,s=>(s,[])
 | k + 1,s=>if s.goes=true then ((gos k s.go1).1,s.pk :: (gos k s.go1).2) else (s,[])
def run (s:SN):SN × List Pk:=gos s.w s
def rest (s:SN):SN:=if s.w=0 then {s with a:=s.a.limit s.L.fl} else s
def tim (s:SN) (now:Nat):SN:={s with c:=s.c.toS now}
def pre (s:SN) (now:Nat):SN:=(s.tim now).loss.tell now (aT 0 (s.tim now).lostL) (!(s.tim now).lostL.isEmpty)
def paced (s:SN) (now:Nat):SN:={s.pre now with p:=(s.pre now).p.tickS now (s.pre now).e.pace (s.pre now).e.quant}
def tickE (s:SN) (now:Nat):Int:=s.c.toE now
def tickS (s:SN) (now:Nat):SN:=if s.c.toE now=0 then (s.paced now).run.1.rest else s.tim now
def tickL (s:SN) (now:Nat):List Pk:=if s.c.toE now=0 then (s.paced now).run.2 else []
def writeE (s:SN) (n:Nat):Int:=s.c.countE n
def writeS (s:SN) (n:Nat):SN:={s with c:=s.c.countS n,w:=if s.c.countE n=0 then Pl.addS s.w n else s.w}
def ackE (s:SN) (now:Nat) (ok:Bool):Int:=if s.c.p=true then 3 else if now < s.c.t then 2 else if ok=true then s.c.toE now else 1
def acked (s:SN) (f:Pk→Bool):List Pk:=s.L.out.filter f
def took (s:SN) (f:Pk→Bool):SN:={s with L:={s.L with out:=s.L.out.filter (fun p=>!f p),top:=(s.acked f).foldl (fun t p=>max t p.n) s.L.top,topped:=s.L.topped || !(s.acked f).isEmpty}}
def sampled (s:SN) (now:Nat) (q:Pk) (l:List Pk):SN:={s with a:=s.a.ack now q l,t:=s.t.put (s.a.ackT now q l).rtt}
def told (s:SN) (now:Nat) (x:Smp) (ac lo:Nat):SN:={s with e:=s.e.on ⟨now,x.deliv,x.interval,x.rate,x.rtt,x.lim,true,s.a.n,ac,lo,s.L.fl⟩}
def ackG (s:SN) (now:Nat) (f:Pk→Bool):SN:=
 match s.acked f with
 | []=>s
 | q :: l=>(((s.took f).sampled now q l).loss).told now (s.a.ackT now q l) (aT 0 (q :: l)) (aT 0 ((s.took f).sampled now q l).lostL)
def ackS (s:SN) (now:Nat) (ok:Bool) (f:Pk→Bool):SN:=
 if s.c.p=true then s else if now < s.c.t then s else if ok=true then (if s.c.toE now=0 then (s.tim now).ackG now f else s.tim now) else s
def nextT (s:SN):Nat:=if (!s.c.p && s.fits)=true then s.p.nextT s.size else 0
end SN
def bB (l:List Pk):Nat:=(l.map Pk.size).sum
theorem iL:bB []=0:=rfl
theorem eA (p:Pk) (l:List Pk):bB (p :: l)=p.size + bB l:=by simp [bB]
theorem iM (l m:List Pk):bB (l ++ m)=bB l + bB m:=by simp [bB]
theorem gK:∀(l:List Pk) (n:Nat),n≤↑ω→aT n l=min (n + bB l) 18446744073709551615
 | [],n,h=>by rw [iL];show n=_;omega
 | p :: l,n,h=>by
   show aT (Pl.addS n p.size) l=_
   rw [gK l _ (Pl.addS_le _ _),eA];unfold Pl.addS;omega
theorem iN (f:Pk→Bool):∀l:List Pk,bB (l.filter f) + bB (l.filter fun p=>!f p)=bB l
 | []=>rfl
 | p :: l=>by
   have:=iN f l;rw [List.filter_cons,List.filter_cons];cases f p <;> simp [eA] <;> omega
theorem sM {l:List Pk} (h:∀p∈l,1≤p.size) (hl:l≠[]):1≤bB l:=by
 cases l with
 | nil=>exact absurd rfl hl
 | cons p l=>rw [eA];have:=h p List.mem_cons_self;omega

structure EP where
 b:Nat
 p:Nat
 a:Nat
 r:Nat
 y:Nat
 n:Nat
def dY (P:EP) (s:ES):Array Value:=#[↑(s.c 0),↑(s.c 1),↑(s.c 2),↑(s.c 3),↑(s.c 4),↑(s.c 5),↑(π P.p),↑s.bs.hi,↑s.bs.lo,↑s.bs.bw,↑(π P.a),↑(π P.y),↑(π P.n),.int .i64 s.st,↑s.began,↑s.rounds,↑s.acked,↑s.lost,↑s.cwnd,↑s.kept,↑s.ended]
def lE:List TypeId:=[111,243,249,307,247,232,251]
def KT (w w':World):Prop:=∀T,T ∉ lE→∀b cs,Blk w b T cs→Blk w' b T cs
theorem KT.refl (w:World):KT w w:=fun _ _ _ _ h=>h
theorem KT.trans {a b c:World} (h:KT a b) (k:KT b c):KT a c:=fun T hT x cs q=>k T hT x cs (h T hT x cs q)
theorem KT.below {w:World} (h:Below ↑w w w'):KT w w':=fun _ _ _ _ q=>q.keep h
theorem KT.gr {w:World} {b:Nat} (h:w.grownBy w' (some b)) (k:Blk w b U ds) (hU:U∈lE):KT w w':=
 fun T hT x cs q=>q.grown h (fun e=>by have e':x=b:=by simpa using e
                                       exact hT ((show T=U from by have:=q.ty k;exact Classical.not_not.1 (fun hne=>this hne e'))▸hU))
theorem KT.set {w w0:World} {b:Nat} (k0:KT w0 w) (k:Blk w b U ds) (hU:U∈lE) (i:Nat) (u:Value):KT w0 (w.setCell ⟨b,i,none⟩ u):=
 k0.trans (KT.gr (bI (bS _ _) i u) k hU)
structure aG (w:World) (B:Own) (P:EP) (s:ES):Prop where
 e:Blk w P.b 111 (dY P s)
 p:Blk w P.p 243 s.p.cells
 f:∃g,B.o g∧dD w P.a P.r g s.f
 y:j6 w P.y s.y
 n:Blk w P.n 251 s.n.cells
 gl:Gl w
 lo:¬ B.o 0
 own:B.o P.b∧B.o P.p∧B.o P.a∧B.o P.r∧B.o P.y∧B.o P.n
 up:B.up w.heap.size
theorem aG.keep {w w':World} {B:Own} {P:EP} {s:ES} (h:aG w B P s) (k:Below ↑w w w'):aG w' B P s:=
 ⟨h.e.keep k,h.p.keep k,by obtain ⟨g,a,b⟩:=h.f;exact ⟨g,a,b.keep k⟩,Blk.keep h.y k,h.n.keep k,h.gl.keep k,h.lo,h.own,h.up.mono k.size⟩
theorem aG.size {w:World} {B:Own} {P:EP} {s:ES} (h:aG w B P s):B.up w.heap.size:=h.up
theorem Gl.below {w:World} {B:Own} (h:Gl w) (hb:aH B w w') (hB:¬ B.o 0):Gl w':=fun k hk=>
 ⟨(hb.cell (p:=⟨0,_,none⟩) (World.block_lt_of_cell? _ _ (h k hk).1) hB).trans (h k hk).1,(hb.cell (p:=⟨0,_,none⟩) (World.block_lt_of_cell? _ _ (h k hk).2) hB).trans (h k hk).2⟩
structure bY (W:World) (B:Own) (P:EP) (s:ES) (w:World):Prop where
 at_:aG w B P s
 bel:Below ↑W W w
theorem bY.to {w:World} {B:Own} {P:EP} {s:ES} (h:bY W B P s w) (k:Below ↑w w w'):bY W B P s w':=⟨h.at_.keep k,aD h.bel k h.bel.size⟩
theorem bY.drew {W w:World} {B:Own} {P:EP} {s:ES} (h:bY W B P s w):bY W B P s w.drew:=h.to ((aB.drew w).below _)
theorem bY.start {B:Own} {P:EP} {s:ES} (h:aG W B P s):bY W B P s W:=⟨h,Below.refl _ _⟩
theorem QH {w:World} {B:Own} {P:EP} {s:ES} (h:Hid (bY W B P s w)) (k:Below ↑w w w'):w'.cell? ⟨P.b,7,none⟩=some ↑s.bs.hi∧w'.cell? ⟨P.b,8,none⟩=some ↑s.bs.lo∧w'.cell? ⟨P.b,9,none⟩=some ↑s.bs.bw∧Hid (bY W B P s w'):=
 have q:=h.out.to k
 ⟨q.at_.e.cell rfl,q.at_.e.cell rfl,q.at_.e.cell rfl,q⟩
theorem OQ {w:World} {B:Own} {P:EP} {s:ES} (h:Hid (bY W B P s w)):w.cell? ⟨P.b,7,none⟩=some ↑s.bs.hi∧w.cell? ⟨P.b,8,none⟩=some ↑s.bs.lo∧w.cell? ⟨P.b,9,none⟩=some ↑s.bs.bw∧Hid (bY W B P s w):=
 ⟨h.out.at_.e.cell rfl,h.out.at_.e.cell rfl,h.out.at_.e.cell rfl,h⟩
theorem QI {w:World} {B:Own} {P:EP} {s:ES} (h:Hid (bY W B P s w)) (k:Below ↑w w w'):w'.cell? ⟨P.b,13,none⟩=some (.int .i64 s.st)∧w'.cell? ⟨P.b,7,none⟩=some ↑s.bs.hi∧w'.cell? ⟨P.b,8,none⟩=some ↑s.bs.lo∧w'.cell? ⟨P.b,9,none⟩=some ↑s.bs.bw∧Hid (bY W B P s w'):=
 have q:=h.out.to k
 ⟨q.at_.e.cell rfl,q.at_.e.cell rfl,q.at_.e.cell rfl,q.at_.e.cell rfl,q⟩
theorem OR {w:World} {B:Own} {P:EP} {s:ES} (h:Hid (bY W B P s w)):w.cell? ⟨P.b,13,none⟩=some (.int .i64 s.st)∧w.cell? ⟨P.b,7,none⟩=some ↑s.bs.hi∧w.cell? ⟨P.b,8,none⟩=some ↑s.bs.lo∧w.cell? ⟨P.b,9,none⟩=some ↑s.bs.bw∧Hid (bY W B P s w):=
 ⟨h.out.at_.e.cell rfl,h.out.at_.e.cell rfl,h.out.at_.e.cell rfl,h.out.at_.e.cell rfl,h⟩
theorem RV {w:World} {B:Own} {P:EP} {s:ES} (h:Hid (bY W B P s w)) (k:Below ↑w w w'):w'.cell? ⟨P.b,0,none⟩=some ↑(s.c 0)∧w'.cell? ⟨P.b,1,none⟩=some ↑(s.c 1)∧w'.cell? ⟨P.b,2,none⟩=some ↑(s.c 2)∧w'.cell? ⟨P.b,3,none⟩=some ↑(s.c 3)∧w'.cell? ⟨P.b,4,none⟩=some ↑(s.c 4)∧w'.cell? ⟨P.b,5,none⟩=some ↑(s.c 5)∧Hid (bY W B P s w'):=
 have q:=h.out.to k
 ⟨q.at_.e.cell rfl,q.at_.e.cell rfl,q.at_.e.cell rfl,q.at_.e.cell rfl,q.at_.e.cell rfl,q.at_.e.cell rfl,q⟩
theorem EM {w:World} {B:Own} {P:EP} {s:ES} (h:Hid (bY W B P s w)):w.cell? ⟨P.b,0,none⟩=some ↑(s.c 0)∧w.cell? ⟨P.b,1,none⟩=some ↑(s.c 1)∧w.cell? ⟨P.b,2,none⟩=some ↑(s.c 2)∧w.cell? ⟨P.b,3,none⟩=some ↑(s.c 3)∧w.cell? ⟨P.b,4,none⟩=some ↑(s.c 4)∧w.cell? ⟨P.b,5,none⟩=some ↑(s.c 5)∧Hid (bY W B P s w):=
 ⟨h.out.at_.e.cell rfl,h.out.at_.e.cell rfl,h.out.at_.e.cell rfl,h.out.at_.e.cell rfl,h.out.at_.e.cell rfl,h.out.at_.e.cell rfl,h⟩
theorem MW {w:World} {B:Own} {P:EP} {s:ES} (h:Hid (bY W B P s w)) (k:Below ↑w w w'):w'.cell? ⟨P.b,20,none⟩=some ↑s.ended∧w'.cell? ⟨P.b,3,none⟩=some ↑(s.c 3)∧Hid (bY W B P s w'):=
 have q:=h.out.to k
 ⟨q.at_.e.cell rfl,q.at_.e.cell rfl,q⟩
theorem OS {w:World} {B:Own} {P:EP} {s:ES} (h:Hid (bY W B P s w)):w.cell? ⟨P.b,20,none⟩=some ↑s.ended∧w.cell? ⟨P.b,3,none⟩=some ↑(s.c 3)∧Hid (bY W B P s w):=
 ⟨h.out.at_.e.cell rfl,h.out.at_.e.cell rfl,h⟩
theorem fJ:(∀(c:Setup) (w:World) (hc:∀i,c i≤↑ω),Calls prog 89 #[.agg (aL c)] w fun e w'=>e=.returned ↑(dE c)∧Below ↑w w w')∧(∀(c:Setup) (w:World) (hc:∀i,c i≤↑ω),Calls prog 48 #[.agg (aL c)] w fun e w'=>e=.returned ↑(cS c)∧Below ↑w w w'):=by
 refine ⟨?_,?_⟩
 have k0v:Hid True:=trivial;rotate_left;rotate_left
 all_goals intro c w hc
 all_goals
  first
  |revert k0v;intro k0v;have HP:∀w',Calls prog 84 #[.agg (aL c),↑(c 1)] w' fun e w''=>e=.returned ↑(dE c)∧Below ↑w' w' w'':=fun w'=>fI c (c 1) w' (hc 0) (hc 1)
  |have HP:∀w',Calls prog 84 #[.agg (aL c),.int .u64 4] w' fun e w''=>e=.returned ↑(cS c)∧Below ↑w' w' w'':=fun w'=>fI c (4) w' (hc 0) (by omega)
  have HP:=lh HP;have G0:=lh ((Below.refl w.heap.size w).alloc (Nat.le_refl _) (.cells (aL c) 24));clear hc;first
  |revert k0v;intro k0v;generalize dE c=q at *;simp only [aL] at HP G0 ⊢;go_enter func89,ntmps89
  |generalize cS c=q at *;simp only [aL] at HP G0 ⊢;go_enter func48,ntmps48
  go_wp2_with fail;refine (HP.out _).mono ?_;rintro e w1 ⟨rfl,h1⟩;have B1:=lh (aD G0.out h1 G0.out.size);clear h1 G0 HP;go_wp2_with fail;go_ret;exact ⟨rfl,B1.out⟩
theorem mZ {B:Own} {P:EP} {s:ES} (w:World) (h:aG w B P s):
  Calls prog 90 #[↑(π P.b)] w fun e w'=>e=.returned ↑s.trip∧Below ↑w w w':=by
 obtain ⟨g,_,hf⟩:=h.f;have HB:=lh (wS P.a P.r g s.f w hf);clear hf;have c10:=(h).e.cell (i:=10) (v:=↑(π P.a)) rfl;unfold ES.trip;unfold wR at HB;clear h;generalize s.f.best=x at *;generalize s.f.some=o at *;cases o with
 | true=>
   go_enter func90,ntmps90;go_wp2_with fail;refine (HB.out).mono ?_;rintro e w1 ⟨rfl,h1⟩;go_wp2_with fail;go_ret;exact ⟨rfl,h1⟩
 | false=>
   go_enter func90,ntmps90;go_wp2_with fail;refine (HB.out).mono ?_;rintro e w1 ⟨rfl,h1⟩;go_wp2_with fail;go_ret;exact ⟨rfl,h1⟩
theorem qH {B:Own} {P:EP} {s:ES} (w:World) (h:aG w B P s) (ho:s.ok k):
  Calls prog 47 #[↑(π P.b)] w fun e w'=>e=.returned ↑s.rate∧Below ↑w w w':=by
 have HY:=lh (l6 P.y s.y w h.y);have HL:=lh (fun w h=>mZ (B:=B) (P:=P) (s:=s) w h);have HF:=lh (fun w=>fJ.1 s.c w ho.c);have HS:=lh (fun w=>l5 (dE s.c) 1000000 s.trip w (oV _) (by omega) (ES.trip_le ho));have E0:=lh h;have c11:=(h).e.cell (i:=11) (v:=↑(π P.y)) rfl;unfold ES.rate;clear h ho;simp only [aL] at HF;generalize Pl.shareS (dE s.c) 1000000 s.trip=q at *;generalize dE s.c=f at *;generalize s.trip=tr at *;by_cases hy:s.y.best=0
 ·rw [if_pos hy]
  rw [hy] at HY;clear hy;go_enter func47,ntmps47;go_wp2_with fail;refine (HY.out).mono ?_;rintro e w1 ⟨rfl,h1⟩;have E1:=lh (E0.out.keep h1);have B1:=lh h1;clear h1 HY E0 c11;have q:=EM (lh (bY.start E1.out));go_split_ands
  go_wp2_with fail;refine (HF.out _).mono ?_;rintro e w2 ⟨rfl,h1⟩;have E2:=lh (E1.out.keep h1);have B2:=lh (aD B1.out h1 B1.out.size);clear h1 HF B1;go_wp2_with fail;refine (HL.out _ E2.out).mono ?_;rintro e w3 ⟨rfl,h1⟩;have B3:=lh (aD B2.out h1 B2.out.size);clear h1 HL B2 E2 E1;go_wp2_with fail;refine (HS.out _).mono ?_;rintro e w4 ⟨rfl,h1⟩;have B4:=lh (aD B3.out h1 B3.out.size);clear h1 HS B3;go_wp2_with fail;go_ret;exact ⟨rfl,B4.out⟩
 ·rw [if_neg hy]
  have d0:((s.y.best:Int) == 0)=false:=beq_eq_false_iff_ne.2 (by omega);generalize s.y.best=x at *;clear hy;go_enter func47,ntmps47;go_wp2_with fail;refine (HY.out).mono ?_;rintro e w1 ⟨rfl,h1⟩;have B1:=lh h1;clear h1;go_wp2_with fail;go_ret;exact ⟨rfl,B1.out⟩
theorem m0 {B:Own} {P:EP} {s:ES} (w:World) (h:aG w B P s) (ho:s.ok k):
  Calls prog 224 #[↑(π P.b)] w fun e w'=>e=.returned ↑s.holds∧Below ↑w w w':=by
 have HB:=lh (fun w h=>qH (B:=B) (P:=P) (s:=s) w h ho);have HL:=lh (fun w h=>mZ (B:=B) (P:=P) (s:=s) w h);have HF:=lh (fun w=>lS s.rate s.trip w (ES.rate_le ho) (ES.trip_le ho));have I0:=lh (bY.start h);unfold ES.holds;clear h ho;generalize Pl.overS s.rate s.trip 1000000=q at *;generalize s.rate=ra at *;generalize s.trip=tr at *;go_enter func224,ntmps224;go_wp2_with fail;refine (HB.out _ I0.out.at_).mono ?_;rintro e w1 ⟨rfl,h1⟩;have I1:=lh (I0.out.to h1);clear h1 I0 HB;go_wp2_with fail;refine (HL.out _ I1.out.at_).mono ?_;rintro e w2 ⟨rfl,h1⟩;have I2:=lh (I1.out.to h1);clear h1 I1 HL;go_wp2_with fail;refine (HF.out _).mono ?_;rintro e w3 ⟨rfl,h1⟩;have I3:=lh (I2.out.to h1);clear h1 I2 HF;go_wp2_with fail;go_ret;exact ⟨rfl,I3.out.bel⟩
theorem KA {B:Own} {P:EP} {s:ES} (W:World) (h:aG W B P s) (ho:s.ok k):
  Calls prog 237 #[↑(π P.b)] W fun e w'=>e=.returned ↑s.uses∧Below ↑W W w':=by
 have HB:=lh (fun w h=>qH (B:=B) (P:=P) (s:=s) w h ho);have HL:=lh (fun w h=>mZ (B:=B) (P:=P) (s:=s) w h);have HI:=lh (fun w=>rX s.bs s.rate w);have HF:=lh (fun w=>lS (s.bs.limit s.rate) s.trip w (ES.limit_le ho) (ES.trip_le ho));have I0:=lh (bY.start h).drew;unfold ES.uses;clear h ho;generalize Pl.overS (s.bs.limit s.rate) s.trip 1000000=q at *;generalize s.bs.limit s.rate=li at *;generalize s.rate=ra at *;generalize s.trip=tr at *;simp only [BS.cells] at HI;go_enter func237,ntmps237;go_wp2_with fail;go_region_held3 (fun w'=>w'.cell? ⟨P.b,7,none⟩=some ↑s.bs.hi∧w'.cell? ⟨P.b,8,none⟩=some ↑s.bs.lo∧w'.cell? ⟨P.b,9,none⟩=some ↑s.bs.bw∧Hid (bY W B P s w'))
  (first | exact OQ I0 | exact QH (by assumption) hb)
  (first
   | (go_at_call 47;go_split_ands;(with_reducible refine (HB.out _ (Hid.out (by assumption):bY W B P s _).at_).mono ?_);rintro e w' ⟨rfl,hb⟩)
   | (go_at_call 90;go_split_ands;(with_reducible refine (HL.out _ (Hid.out (by assumption):bY W B P s _).at_).mono ?_);rintro e w' ⟨rfl,hb⟩)
   | (go_at_call 46;go_split_ands;(with_reducible refine (HI.out _).mono ?_);rintro e w' ⟨rfl,hb⟩)
   | (go_at_call 262;go_split_ands;(with_reducible refine (HF.out _).mono ?_);rintro e w' ⟨rfl,hb⟩))
 go_split_ands
 have hq:=(Hid.out ‹Hid (bY W B P s w')›).bel;go_wp2;go_ret;exact ⟨rfl,hq⟩
theorem qI {B:Own} {P:EP} {s:ES} (W:World) (h:aG W B P s) (ho:s.ok k):
  Calls prog 23 #[↑(π P.b)] W fun e w'=>e=.returned ↑s.pace∧Below ↑W W w':=by
 have HB:=lh (fun w h=>qH (B:=B) (P:=P) (s:=s) w h ho);have HI:=lh (fun w=>rX s.bs s.rate w);have HG:=lh (fun w h=>IU s.st (s.bs.limit s.rate) (ES.limit_le ho) w h);have HL:=lh (fun w=>fJ.2 s.c w ho.c);have I0:=lh (bY.start h).drew;have HM:Hid (min (max (jZ (stG s.st) (s.bs.limit s.rate):Int) (cS s.c:Int)) 1099511627776=(s.pace:Int)):=lh (by unfold ES.pace;omega);clear h ho;generalize jZ (stG s.st) (s.bs.limit s.rate)=pa at *;generalize s.bs.limit s.rate=li at *;generalize s.rate=ra at *;generalize cS s.c=le at *;generalize s.pace=q at *;simp only [BS.cells] at HI;simp only [aL] at HL;go_enter func23,ntmps23;go_wp2_with fail;go_region_held3 (fun w'=>w'.cell? ⟨P.b,13,none⟩=some (.int .i64 s.st)∧w'.cell? ⟨P.b,7,none⟩=some ↑s.bs.hi∧w'.cell? ⟨P.b,8,none⟩=some ↑s.bs.lo∧w'.cell? ⟨P.b,9,none⟩=some ↑s.bs.bw∧Hid (bY W B P s w'))
  (first | exact OR I0 | exact QI (by assumption) hb)
  (first
   | (go_at_call 47;go_split_ands;(with_reducible refine (HB.out _ (Hid.out (by assumption):bY W B P s _).at_).mono ?_);rintro e w' ⟨rfl,hb⟩)
   | (go_at_call 46;go_split_ands;(with_reducible refine (HI.out _).mono ?_);rintro e w' ⟨rfl,hb⟩)
   | (go_at_call 45;go_split_ands;(with_reducible refine (HG.out _ (Hid.out (by assumption):bY W B P s _).at_.gl).mono ?_);rintro e w' ⟨rfl,hb⟩))
 go_split_ands
 have I1:=lh (Hid.out ‹Hid (bY W B P s w')›);have q:=EM I1;go_split_ands
 go_wp2_with fail;refine (HL.out _).mono ?_;rintro e w2 ⟨rfl,h1⟩;have I2:=lh (I1.out.to h1);clear h1;go_wp2_with fail;all_goals
  go_ret;refine ⟨bH ?_,I2.out.bel⟩;first | exact HM.out | (rw [← HM.out];omega)
theorem m9 {B:Own} {P:EP} {s:ES} (W:World) (h:aG W B P s) (ho:s.ok k):
  Calls prog 18 #[↑(π P.b)] W fun e w'=>e=.returned ↑s.quant∧Below ↑W W w':=by
 have HB:=lh (fun w h=>qI (B:=B) (P:=P) (s:=s) w h ho);have HQ:=lh (fun w=>qG s.c s.pace w (ho.c 0) (Nat.le_trans (ES.pace_le s) (by omega)));have I0:=lh (bY.start h).drew;unfold ES.quant;clear h ho;generalize iK (s.c 0) s.pace=q at *;generalize s.pace=pa at *;simp only [aL] at HQ;go_enter func18,ntmps18;go_wp2_with fail;go_region_held3 (fun w'=>w'.cell? ⟨P.b,0,none⟩=some ↑(s.c 0)∧w'.cell? ⟨P.b,1,none⟩=some ↑(s.c 1)∧w'.cell? ⟨P.b,2,none⟩=some ↑(s.c 2)∧w'.cell? ⟨P.b,3,none⟩=some ↑(s.c 3)∧w'.cell? ⟨P.b,4,none⟩=some ↑(s.c 4)∧w'.cell? ⟨P.b,5,none⟩=some ↑(s.c 5)∧Hid (bY W B P s w'))
  (first | exact EM I0 | exact RV (by assumption) hb)
  (first
   | (go_at_call 23;go_split_ands;(with_reducible refine (HB.out _ (Hid.out (by assumption):bY W B P s _).at_).mono ?_);rintro e w' ⟨rfl,hb⟩)
   | (go_at_call 42;go_split_ands;(with_reducible refine (HQ.out _).mono ?_);rintro e w' ⟨rfl,hb⟩))
 go_split_ands
 have hq:=(Hid.out ‹Hid (bY W B P s w')›).bel;go_wp2;go_ret;exact ⟨rfl,hq⟩
theorem wZ {B:Own} {P:EP} {s:ES} (w:World) (h:aG w B P s):
  Calls prog 20 #[↑(π P.b)] w fun e w'=>e=.returned ↑s.cwnd∧Below ↑w w w':=by
 have c18:=(h).e.cell (i:=18) (v:=↑s.cwnd) rfl;go_enter func20,ntmps20;go_wp2;go_ret;exact ⟨rfl,Below.refl _ _⟩

def EvS.cells (x:EvS):Array Value:=#[↑x.now,↑x.sd,↑x.si,↑x.sr,↑x.rt,.bool x.sl,.bool x.sm,↑x.dl,↑x.ac,↑x.lo,↑x.fl]
def EvS.val (x:EvS):Value:=.agg x.cells

theorem aG.set {w:World} {B:Own} {P:EP} {s s':ES} (h:aG w B P s) (i:Nat) (u:Value) (he:(dY P s).setIfInBounds i u=dY P s') (hp:s'.p=s.p) (hf:s'.f=s.f) (hy:s'.y=s.y) (hn:s'.n=s.n):
  aG (w.setCell ⟨P.b,i,none⟩ u) B P s':=
 ⟨he▸h.e.set i u,hp▸h.p.set_other i u (h.p.ty h.e (by decide)),by
  obtain ⟨g,hg,k⟩:=h.f;obtain ⟨c1,k1⟩:=k.row.head;obtain ⟨c2,k2⟩:=k.row.body;exact ⟨g,hg,hf▸⟨k.head.set_other i u (k.head.ty h.e (by decide)),k.row.set_other (k1.ty h.e (by decide)) (k2.ty h.e (by decide))⟩⟩,
  hy▸Blk.set_other h.y i u (Blk.ty h.y h.e (by decide)),hn▸h.n.set_other i u (h.n.ty h.e (by decide)),
  h.gl.below (B:=B) ((aH.refl _ _).setCell (p:=⟨P.b,i,none⟩) h.own.1 u) h.lo,h.lo,h.own,h.up.mono (by simp [World.setCell])⟩
structure aZ (B:Own) (P:EP) (v:Ending) (s':ES) (W:World) (e:Ending) (w:World):Prop where
 e:e=v
 at_:aG w B P s'
 bel:aH B W w
 kt:KT W w
structure aX (W:World) (B:Own) (P:EP) (s:ES) (x:EvS) (w:World):Prop where
 at_:aG w B P s
 bel:aH B W w
 kt:KT W w
 ev:Blk w W.heap.size 137 x.cells
theorem aH.to {B:Own} {a w w':World} (h:aH B a w) (k:Below ↑w w w'):aH B a w':=h.tO k
theorem aX.to {W w w':World} {B:Own} {P:EP} {s:ES} {x:EvS} (h:aX W B P s x w) (k:Below ↑w w w'):aX W B P s x w':=
 ⟨h.at_.keep k,h.bel.to k,h.kt.trans (KT.below k),h.ev.keep k⟩
theorem aX.drew {W w:World} {B:Own} {P:EP} {s:ES} {x:EvS} (h:aX W B P s x w):aX W B P s x w.drew:=h.to ((aB.drew w).below _)
theorem aX.start {B:Own} {P:EP} {s:ES} (h:aG W B P s) (x:EvS):aX W B P s x (W.alloc (.cells x.cells 137)):=
 ⟨h.keep ((Below.refl _ _).alloc (Nat.le_refl _) _),aH.of ((Below.refl _ _).alloc (Nat.le_refl _) _),KT.below ((Below.refl _ _).alloc (Nat.le_refl _) _),Blk.new W _ _⟩
theorem aX.set {W w:World} {B:Own} {P:EP} {s s':ES} {x:EvS} (h:aX W B P s x w) (i:Nat) (u:Value) (he:(dY P s).setIfInBounds i u=dY P s') (hp:s'.p=s.p) (hf:s'.f=s.f) (hy:s'.y=s.y) (hn:s'.n=s.n):
  aX W B P s' x (w.setCell ⟨P.b,i,none⟩ u):=
 ⟨h.at_.set i u he hp hf hy hn,h.bel.setCell (p:=⟨P.b,i,none⟩) h.at_.own.1 u,h.kt.set h.at_.e (by decide) i u,h.ev.set_other i u (h.ev.ty h.at_.e (by decide))⟩
theorem aX.step {W w w':World} {B:Own} {P:EP} {s s':ES} {x:EvS} {v e:Ending} (h:aX W B P s x w) (k:aZ B P v s' w e w'):aX W B P s' x w':=
 ⟨k.at_,h.bel.trans k.bel,h.kt.trans k.kt,k.kt _ (by decide) _ _ h.ev⟩
theorem aX.post {w:World} {B:Own} {P:EP} {s:ES} {x:EvS} {v:Ending} (h:aX W B P s x w):aZ B P v s W v w:=⟨rfl,h.at_,h.bel,h.kt⟩
theorem aX.al {w:World} {B:Own} {P:EP} {s:ES} {x:EvS} (h:aX W B P s x w) (k:Below (w.alloc q).heap.size (w.alloc q) w'):aX W B P s x w':=(h.to (aC _ _)).to k
theorem aX.ald {w:World} {B:Own} {P:EP} {s:ES} {x:EvS} (h:aX W B P s x w) (k:Below (w.alloc q).drew.heap.size (w.alloc q).drew w'):aX W B P s x w':=(h.to (cK _ _)).to k
theorem EO {B:Own} {P:EP} {s:ES} (x:EvS) (hx:x.ok) (W:World) (h:aG W B P s) (ho:s.ok k):
  Calls prog 169 #[↑(π P.b),x.val] W (aZ B P (.returned (.tuple #[])) (s.count x) W):=by
 have HA:=lh (bU s.acked x.ac ho.acked hx.ac);have HL:=lh (bU s.lost x.lo ho.lost hx.lo);have M0:=lh (aX.start h x);unfold EvS.val;clear h ho hx;have HE:Hid (x.cells=#[↑x.now,↑x.sd,↑x.si,↑x.sr,↑x.rt,.bool x.sl,.bool x.sm,↑x.dl,↑x.ac,↑x.lo,↑x.fl]):=lh rfl;rw [HE.out] at M0 ⊢;go_enter func169,ntmps169;go_wp2_with fail;generalize W.alloc (.cells #[↑x.now,↑x.sd,↑x.si,↑x.sr,↑x.rt,.bool x.sl,.bool x.sm,↑x.dl,↑x.ac,↑x.lo,↑x.fl] 137)=w0 at *;have M1:=lh M0.out.drew;have e8:=M1.out.ev.cell (i:=8) (v:=↑x.ac) rfl;have c16:=(M1.out.at_).e.cell (i:=16) (v:=↑s.acked) rfl;go_region_with (first
  | (go_at_call 60;(refine (HA.out _ _ (by first | exact (nc2 _ _ _ _).1 | exact aO (nc2 _ _ _ _).1) (by first | exact (nc2 _ _ _ _).2 | exact aO (nc2 _ _ _ _).2)).mono ?_);rintro e w2 ⟨rfl,hb⟩;have M2:Hid (aX W B P _ x w2):=(by first | exact lh (M1.out.al hb) | exact lh (M1.out.ald hb));have d16:=M2.out.at_.e.cell (i:=16) (v:=↑s.acked) rfl;have y16:=M2.out.at_.e.free 16))
 all_goals
  have M3:=lh (M2.out.set (s':={s with acked:=Pl.addS s.acked x.ac}) 16 ↑(Pl.addS s.acked x.ac:Nat) rfl rfl rfl rfl rfl);clear M0 M1 M2 e8 c16 d16 y16 hb;generalize w2.setCell ⟨P.b,16,none⟩ ↑(Pl.addS s.acked x.ac:Nat)=w3 at *;go_wp2_with fail;have M4:=lh M3.out.drew;have e9:=M4.out.ev.cell (i:=9) (v:=↑x.lo) rfl;have c17:=M4.out.at_.e.cell (i:=17) (v:=↑s.lost) rfl;go_region_with (first
   | (go_at_call 60;(refine (HL.out _ _ (by first | exact (nc2 _ _ _ _).1 | exact aO (nc2 _ _ _ _).1) (by first | exact (nc2 _ _ _ _).2 | exact aO (nc2 _ _ _ _).2)).mono ?_);rintro e w2 ⟨rfl,hb⟩;have M5:Hid (aX W B P _ x w2):=(by first | exact lh (M4.out.al hb) | exact lh (M4.out.ald hb));have d17:=M5.out.at_.e.cell (i:=17) (v:=↑s.lost) rfl;have y17:=M5.out.at_.e.free 17))
  all_goals
   have M6:=lh (M5.out.set (s':=s.count x) 17 ↑(Pl.addS s.lost x.lo:Nat) rfl rfl rfl rfl rfl);go_wp2_with fail;go_end0
   exact M6.out.post

structure aY (W:World) (B:Own) (P:EP) (s:ES) (w:World):Prop where
 at_:aG w B P s
 bel:aH B W w
 kt:KT W w
theorem aY.to {W w w':World} {B:Own} {P:EP} {s:ES} (h:aY W B P s w) (k:Below ↑w w w'):aY W B P s w':=
 ⟨h.at_.keep k,h.bel.to k,h.kt.trans (KT.below k)⟩
theorem aY.drew {W w:World} {B:Own} {P:EP} {s:ES} (h:aY W B P s w):aY W B P s w.drew:=h.to ((aB.drew w).below _)
theorem aY.start {B:Own} {P:EP} {s:ES} (h:aG W B P s):aY W B P s W:=⟨h,aH.refl _ _,KT.refl _⟩
theorem aY.set {W w:World} {B:Own} {P:EP} {s s':ES} (h:aY W B P s w) (i:Nat) (u:Value) (he:(dY P s).setIfInBounds i u=dY P s') (hp:s'.p=s.p) (hf:s'.f=s.f) (hy:s'.y=s.y) (hn:s'.n=s.n):
  aY W B P s' (w.setCell ⟨P.b,i,none⟩ u):=
 ⟨h.at_.set i u he hp hf hy hn,h.bel.setCell (p:=⟨P.b,i,none⟩) h.at_.own.1 u,h.kt.set h.at_.e (by decide) i u⟩
theorem aY.post {w:World} {B:Own} {P:EP} {s:ES} {v:Ending} (h:aY W B P s w):aZ B P v s W v w:=⟨rfl,h.at_,h.bel,h.kt⟩
theorem aY.al {w:World} {B:Own} {P:EP} {s:ES} (h:aY W B P s w) (k:Below (w.alloc q).heap.size (w.alloc q) w'):aY W B P s w':=(h.to (aC _ _)).to k
theorem aY.ald {w:World} {B:Own} {P:EP} {s:ES} (h:aY W B P s w) (k:Below (w.alloc q).drew.heap.size (w.alloc q).drew w'):aY W B P s w':=(h.to (cK _ _)).to k
theorem QJ (W:World) (b x:Nat) (y:Int) (T:TypeId) (hb:b=W.heap.size):(W.alloc (.cells #[↑x,.int .u64 y] T)).cell? ⟨b,0,none⟩=some ↑x∧(W.alloc (.cells #[↑x,.int .u64 y] T)).cell? ⟨b,1,none⟩=some (.int .u64 y):=by subst hb;exact ⟨aN rfl rfl,aN rfl rfl⟩
theorem aY.mi {w:World} {B:Own} {P:EP} {s s':ES} {x:EvS} (h:aX W B P s x w) (k:aY w B P s' w'):aX W B P s' x w':=
 ⟨k.at_,h.bel.trans k.bel,h.kt.trans k.kt,k.kt _ (by decide) _ _ h.ev⟩
theorem aY.cat {w:World} {B:Own} {P:EP} {s s':ES} (h:aY W B P s w) (k:aY w B P s' w'):aY W B P s' w':=⟨k.at_,h.bel.trans k.bel,h.kt.trans k.kt⟩
theorem Fr.of_gr {w:World} {c:Nat} (g:w.grownBy w' (some c)):Fr w w' [c]:=⟨g.os,g.tape,g.output,g.size,fun k hk hl=>g.block k hk (by simpa using hl)⟩
theorem aY.cy {w:World} {B:Own} {P:EP} {s:ES} {y':CY} (h:aG w B P s) (hy:j6 w' P.y y') (g:w.grownBy w' (some P.y)):aY w B P {s with y:=y'} w':=by
 have k:=Fr.of_gr g;have hb:aH B w w':=(aH.refl _ _).gr g h.own.2.2.2.2.1;refine ⟨⟨h.e.fr k (by simpa using h.e.ty h.y (by decide)),h.p.fr k (by simpa using h.p.ty h.y (by decide)),?_,hy,h.n.fr k (by simpa using h.n.ty h.y (by decide)),h.gl.below hb h.lo,h.lo,h.own,h.up.mono hb.size⟩,hb,KT.gr g h.y (by decide)⟩;obtain ⟨g',hg,q⟩:=h.f;obtain ⟨c1,k1⟩:=q.row.head;obtain ⟨c2,k2⟩:=q.row.body;exact ⟨g',hg,q.fr k (by simpa using q.head.ty h.y (by decide)) (by simpa using k1.ty h.y (by decide)) (by simpa using k2.ty h.y (by decide))⟩
theorem aY.ct {w:World} {B:Own} {P:EP} {s:ES} {n':Ct} (h:aG w B P s) (hy:Blk w' P.n 251 n'.cells) (g:w.grownBy w' (some P.n)):aY w B P {s with n:=n'} w':=by
 have k:=Fr.of_gr g;have hb:aH B w w':=(aH.refl _ _).gr g h.own.2.2.2.2.2;refine ⟨⟨h.e.fr k (by simpa using h.e.ty h.n (by decide)),h.p.fr k (by simpa using h.p.ty h.n (by decide)),?_,Blk.fr h.y k (by simpa using Blk.ty h.y h.n (by decide)),hy,h.gl.below hb h.lo,h.lo,h.own,h.up.mono hb.size⟩,hb,KT.gr g h.n (by decide)⟩;obtain ⟨g',hg,q⟩:=h.f;obtain ⟨c1,k1⟩:=q.row.head;obtain ⟨c2,k2⟩:=q.row.body;exact ⟨g',hg,q.fr k (by simpa using q.head.ty h.n (by decide)) (by simpa using k1.ty h.n (by decide)) (by simpa using k2.ty h.n (by decide))⟩
theorem aY.pi {w:World} {B:Own} {P:EP} {s:ES} {p':Pi} (h:aG w B P s) (hy:Blk w' P.p 243 p'.cells) (g:w.grownBy w' (some P.p)):aY w B P {s with p:=p'} w':=by
 have k:=Fr.of_gr g;have hb:aH B w w':=(aH.refl _ _).gr g h.own.2.1;refine ⟨⟨h.e.fr k (by simpa using h.e.ty h.p (by decide)),hy,?_,Blk.fr h.y k (by simpa using Blk.ty h.y h.p (by decide)),h.n.fr k (by simpa using h.n.ty h.p (by decide)),h.gl.below hb h.lo,h.lo,h.own,h.up.mono hb.size⟩,hb,KT.gr g h.p (by decide)⟩;obtain ⟨g',hg,q⟩:=h.f;obtain ⟨c1,k1⟩:=q.row.head;obtain ⟨c2,k2⟩:=q.row.body;exact ⟨g',hg,q.fr k (by simpa using q.head.ty h.p (by decide)) (by simpa using k1.ty h.p (by decide)) (by simpa using k2.ty h.p (by decide))⟩
theorem aY.fl {w:World} {B:Own} {g:Nat} {P:EP} {s:ES} {f':FS} {v e:Ending} (h:aG w B P s) (hg:B.o g) (hf:dD w P.a P.r g s.f) (k:lQ w P.a P.r g v f' e w'):aY w B P {s with f:=f'} w':=by
 obtain ⟨g',hf',hg'⟩:=k.at_;obtain ⟨c1,k1⟩:=hf.row.head;obtain ⟨c2,k2⟩:=hf.row.body;have hB:=h.size;have hb:aH B w w':=(aH.refl _ _).fr k.fr (by
  intro x hx;simp only [List.mem_cons,List.not_mem_nil,or_false] at hx;rcases hx with rfl | rfl | rfl
  ·exact h.own.2.2.1
  ·exact h.own.2.2.2.1
  ·exact hg)
 refine ⟨⟨h.e.fr k.fr ?_,h.p.fr k.fr ?_,⟨g',hg'.elim (fun e=>e.symm▸hg) (fun q=>hB _ q),hf'⟩,Blk.fr h.y k.fr ?_,h.n.fr k.fr ?_,h.gl.below hb h.lo,h.lo,h.own,h.up.mono hb.size⟩,hb,fun T hT b cs q=>q.fr k.fr ?_⟩
 ·simpa using ⟨h.e.ty hf.head (by decide),h.e.ty k1 (by decide),h.e.ty k2 (by decide)⟩
 ·simpa using ⟨h.p.ty hf.head (by decide),h.p.ty k1 (by decide),h.p.ty k2 (by decide)⟩
 ·simpa using ⟨Blk.ty h.y hf.head (by decide),Blk.ty h.y k1 (by decide),Blk.ty h.y k2 (by decide)⟩
 ·simpa using ⟨h.n.ty hf.head (by decide),h.n.ty k1 (by decide),h.n.ty k2 (by decide)⟩
 ·simpa using ⟨q.ty hf.head (fun e=>hT (e▸by decide)),q.ty k1 (fun e=>hT (e▸by decide)),q.ty k2 (fun e=>hT (e▸by decide))⟩
theorem zQ {w:World} {B:Own} {P:EP} {s:ES} (h:Hid (aY W B P s w)):w.cell? ⟨P.b,17,none⟩=some ↑s.lost∧w.cell? ⟨P.b,5,none⟩=some ↑(s.c 5)∧Hid (aY W B P s w):=
 ⟨h.out.at_.e.cell rfl,h.out.at_.e.cell rfl,h⟩
theorem zR {B:Own} {P:EP} {s:ES} (W:World) (h:aG W B P s) (ho:s.ok k):
  Calls prog 171 #[↑(π P.b)] W (aZ B P (.returned (.bool s.lossy)) s.settle W):=by
 have HA:=lh (bU s.acked s.lost ho.acked ho.lost);have HR:Hid (∀(b:Nat) (W:World),W.cell? ⟨b,0,none⟩=some ↑s.rounds→W.cell? ⟨b,1,none⟩=some (.int .u64 1)→Calls prog 60 #[.slice (some ⟨b,0,none⟩) 2 2] W fun e w'=>e=.returned ↑(Pl.addS s.rounds 1:Nat)∧Below ↑W W w'):=lh (bU s.rounds 1 ho.rounds (by omega));have HM:Hid (∀w,Calls prog 131 #[↑s.lost,.int .u64 1000] w fun e w'=>e=.returned ↑(Pl.mulS s.lost 1000:Nat)∧w=w'):=lh (fun w=>cB s.lost 1000 w ho.lost (by omega));have HN:=lh (fun w=>cB (s.c 5) (Pl.addS s.acked s.lost) w (ho.c 5) (Pl.addS_le _ _));have hd:decide (Pl.mulS (s.c 5) (Pl.addS s.acked s.lost) < Pl.mulS s.lost 1000)=s.lossy:=rfl;have M0:=lh (aY.start h).drew;clear h ho;generalize s.lossy=lossy at *;generalize Pl.mulS (s.c 5) (Pl.addS s.acked s.lost)=m2 at *;generalize Pl.mulS s.lost 1000=m1 at *;go_enter func171,ntmps171;go_wp2_with fail;have c16:=M0.out.at_.e.cell (i:=16) (v:=↑s.acked) rfl;have c17:=M0.out.at_.e.cell (i:=17) (v:=↑s.lost) rfl;go_region_with (first
  | (go_at_call 60;(refine (HA.out _ _ (by first | exact (nc2 _ _ _ _).1 | exact aO (nc2 _ _ _ _).1) (by first | exact (nc2 _ _ _ _).2 | exact aO (nc2 _ _ _ _).2)).mono ?_);rintro e w2 ⟨rfl,hb⟩;have M2:Hid (aY W B P _ w2):=(by first | exact lh (M0.out.al hb) | exact lh (M0.out.ald hb));))
 all_goals
  clear M0 c16 c17 hb HA;go_wp2_with fail;have M3:=lh M2.out.drew;go_region_held3 (fun w'=>w'.cell? ⟨P.b,17,none⟩=some ↑s.lost∧w'.cell? ⟨P.b,5,none⟩=some ↑(s.c 5)∧Hid (aY W B P s w'))
   (first | exact zQ M3)
   (first
    | (go_at_call 131;go_split_ands;(with_reducible refine (HM.out _).mono ?_);rintro e w' ⟨rfl,rfl⟩)
    | (go_at_call 131;go_split_ands;(with_reducible refine (HN.out _).mono ?_);rintro e w' ⟨rfl,rfl⟩))
  go_split_ands
  have M4:Hid (aY W B P s w2):=M2;have y15:=M4.out.at_.e.free 15;have y16:=M4.out.at_.e.free 16;have y17:=M4.out.at_.e.free 17;have d15:=M4.out.at_.e.cell (i:=15) (v:=↑s.rounds) rfl;have d16:=M4.out.at_.e.cell (i:=16) (v:=↑s.acked) rfl;have d17:=M4.out.at_.e.cell (i:=17) (v:=↑s.lost) rfl;have M5:=lh ((M4.out.set (s':={s with acked:=0}) 16 ↑ζ rfl rfl rfl rfl rfl).set (s':={s with acked:=0,lost:=0}) 17 ↑ζ rfl rfl rfl rfl rfl);go_wp2_with fail;refine (HR.out _ _ (by exact (QJ _ _ _ _ _ (by simp)).1) (by exact (QJ _ _ _ _ _ (by simp)).2)).mono ?_;rintro e w6 ⟨rfl,hb⟩;have M6:Hid (aY W B P {s with acked:=0,lost:=0} w6):=(by first | exact lh (M5.out.al hb) | exact lh (M5.out.ald hb) | exact lh (M5.out.drew.al hb) | exact lh (M5.out.drew.ald hb));have z15:=M6.out.at_.e.cell (i:=15) (v:=↑s.rounds) rfl;have q15:=M6.out.at_.e.free 15;have M7:=lh (M6.out.set (s':=s.settle) 15 ↑(Pl.addS s.rounds 1:Nat) rfl rfl rfl rfl rfl);clear M2 M3 M4 M5 M6 hb y15 y16 y17 d15 d16 d17;go_wp2_with fail;go_ret;exact ⟨rfl,M7.out.at_,M7.out.bel,M7.out.kt⟩

theorem qJ {B:Own} {P:EP} {s:ES} (now:Nat) (t:Int) (W:World) (h:aG W B P s) (hn:t=s.st):
  Calls prog 174 #[↑(π P.b),↑now,.int .i64 t] W (aZ B P (.returned (.tuple #[])) s W):=by
 have z0:(t == s.st)=true:=beq_iff_eq.2 hn;have M0:=lh (aY.start h);have g13:=M0.out.at_.e.cell (i:=13) (v:=.int .i64 s.st) rfl;clear h hn;go_enter func174,ntmps174;go_wp2_with fail;exact bodyPost_ret (v:=.tuple #[]) (by simp [results,Tryz.results174,go_sem]) rfl M0.out.post
theorem fQ:(∀{B:Own} {k:Nat} {P:EP} {s:ES} (now:Nat) (t:Int) (W:World) (h:aG W B P s) (ho:s.ok k) (hn:t≠s.st) (h6:s.st≠6) (t6:t≠6) (t4:t≠4) (h5:¬ (s.st=5∧t=2)),Calls prog 174 #[↑(π P.b),↑now,.int .i64 t] W (aZ B P (.returned (.tuple #[])) {s with st:=t,began:=now,rounds:=0} W))∧(∀{B:Own} {k:Nat} {P:EP} {s:ES} (now:Nat) (t:Int) (W:World) (h:aG W B P s) (ho:s.ok k) (hn:t≠s.st) (h6:s.st≠6) (t6:t=6),Calls prog 174 #[↑(π P.b),↑now,.int .i64 t] W (aZ B P (.returned (.tuple #[])) {{s with kept:=s.cwnd} with st:=t,began:=now,rounds:=0} W))∧(∀{B:Own} {k:Nat} {P:EP} {s:ES} (now:Nat) (t:Int) (W:World) (h:aG W B P s) (ho:s.ok k) (hn:t≠s.st) (h6:s.st≠6) (t4:t=4),Calls prog 174 #[↑(π P.b),↑now,.int .i64 t] W (aZ B P (.returned (.tuple #[])) {{s with bs:=s.bs.short} with st:=t,began:=now,rounds:=0} W)):=by
 refine ⟨?_,?_,?_⟩
 have k0v:Hid True:=trivial;intro B k P s now t W h ho hn h6 t6 t4 h5;rotate_left;have k1v:Hid True:=trivial;intro B k P s now t W h ho hn h6 t6;rotate_left;have k2v:Hid True:=trivial;intro B k P s now t W h ho hn h6 t4;rotate_left
 all_goals
  have z0:(t == s.st)=false:=beq_eq_false_iff_ne.2 (hn);have z1:(s.st == 6)=false:=beq_eq_false_iff_ne.2 (h6);first
  |revert k1v;intro k1v;have z2:(t == 6)=true:=beq_iff_eq.2 t6
  |revert k2v;intro k2v;have z2:(t == 6)=false:=beq_eq_false_iff_ne.2 (by omega);have z3:(t == 4)=true:=beq_iff_eq.2 t4
  |have z2:(t == 6)=false:=beq_eq_false_iff_ne.2 (t6);have z3:(t == 4)=false:=beq_eq_false_iff_ne.2 (t4)
   have zz:(s.st == 5)=false∨((s.st == 5)=true∧(t == 2)=false):=by
    by_cases e5:s.st=5
    ·exact Or.inr ⟨beq_iff_eq.2 e5,beq_eq_false_iff_ne.2 (fun e2=>h5 ⟨e5,e2⟩)⟩
    ·exact Or.inl (beq_eq_false_iff_ne.2 e5)
  have M0:=lh (aY.start h);have g13:=M0.out.at_.e.cell (i:=13) (v:=.int .i64 s.st) rfl;first
  |revert k0v;intro k0v;have MF:=M0
  |revert k1v;intro k1v;have g18:=M0.out.at_.e.cell (i:=18) (v:=↑s.cwnd) rfl;have g19:=M0.out.at_.e.cell (i:=19) (v:=↑s.kept) rfl;have y19:=M0.out.at_.e.free 19;have MF:=lh (M0.out.set (s':={s with kept:=s.cwnd}) 19 ↑s.cwnd rfl rfl rfl rfl rfl);clear h ho hn h6 t6;go_enter func174,ntmps174
  |have g7:=M0.out.at_.e.cell (i:=7) (v:=↑s.bs.hi) rfl;have g8:=M0.out.at_.e.cell (i:=8) (v:=↑s.bs.lo) rfl;have g9:=M0.out.at_.e.cell (i:=9) (v:=↑s.bs.bw) rfl;have HS:=lh (fun w=>CQ s.bs w);simp only [BS.cells] at HS;clear h ho hn h6 t4;go_enter func174,ntmps174;go_wp2_with fail;refine (HS.out _).mono ?_;rintro e w1 ⟨rfl,hb⟩;have M1:=lh (M0.out.to hb);have r7:=M1.out.at_.e.cell (i:=7) (v:=↑s.bs.hi) rfl;have r8:=M1.out.at_.e.cell (i:=8) (v:=↑s.bs.lo) rfl;have r9:=M1.out.at_.e.cell (i:=9) (v:=↑s.bs.bw) rfl;have y7:=M1.out.at_.e.free 7;have y8:=M1.out.at_.e.free 8;have y9:=M1.out.at_.e.free 9;have MF:=lh (((M1.out.set (s':={s with bs:=⟨(s.bs.short).hi,s.bs.lo,s.bs.bw⟩}) 7 ↑((s.bs.short).hi) rfl rfl rfl rfl rfl).set (s':={s with bs:=⟨(s.bs.short).hi,(s.bs.short).lo,s.bs.bw⟩}) 8 ↑((s.bs.short).lo) rfl rfl rfl rfl rfl).set (s':={s with bs:=s.bs.short}) 9 ↑((s.bs.short).bw) rfl rfl rfl rfl rfl);clear hb
  have y13:=MF.out.at_.e.free 13;have y14:=MF.out.at_.e.free 14;have y15:=MF.out.at_.e.free 15;have d13:=MF.out.at_.e.cell (i:=13) (v:=.int .i64 s.st) rfl;have d14:=MF.out.at_.e.cell (i:=14) (v:=↑s.began) rfl;have d15:=MF.out.at_.e.cell (i:=15) (v:=↑s.rounds) rfl;first
  |revert k1v;intro k1v;have MZ:=lh (((MF.out.set (s':={{s with kept:=s.cwnd} with st:=t}) 13 (.int .i64 t) rfl rfl rfl rfl rfl).set (s':={{s with kept:=s.cwnd} with st:=t,began:=now}) 14 ↑now rfl rfl rfl rfl rfl).set (s':={{s with kept:=s.cwnd} with st:=t,began:=now,rounds:=0}) 15 ↑ζ rfl rfl rfl rfl rfl);go_wp2_with fail;go_end0;exact MZ.out.post
  |revert k2v;intro k2v;have MZ:=lh (((MF.out.set (s':={{s with bs:=s.bs.short} with st:=t}) 13 (.int .i64 t) rfl rfl rfl rfl rfl).set (s':={{s with bs:=s.bs.short} with st:=t,began:=now}) 14 ↑now rfl rfl rfl rfl rfl).set (s':={{s with bs:=s.bs.short} with st:=t,began:=now,rounds:=0}) 15 ↑ζ rfl rfl rfl rfl rfl);go_wp2_with fail;go_end0;exact MZ.out.post
  |have MZ:=lh (((MF.out.set (s':={s with st:=t}) 13 (.int .i64 t) rfl rfl rfl rfl rfl).set (s':={s with st:=t,began:=now}) 14 ↑now rfl rfl rfl rfl rfl).set (s':={s with st:=t,began:=now,rounds:=0}) 15 ↑ζ rfl rfl rfl rfl rfl);clear h ho hn h6 t6 t4 h5;rcases zz with z4 | ⟨z4,z5⟩
   all_goals
    go_enter func174,ntmps174;go_wp2_with fail;go_end0;exact MZ.out.post
theorem qK {B:Own} {P:EP} {s:ES} (now:Nat) (t:Int) (W:World) (h:aG W B P s) (ho:s.ok k) (h5:s.st=5) (t2:t=2):
  Calls prog 174 #[↑(π P.b),↑now,.int .i64 t] W (aZ B P (.returned (.tuple #[])) {{s with y:=s.y.next} with st:=t,began:=now,rounds:=0} W):=by
 have z0:(t == s.st)=false:=beq_eq_false_iff_ne.2 (by omega);have z1:(s.st == 6)=false:=beq_eq_false_iff_ne.2 (by omega);have z2:(t == 6)=false:=beq_eq_false_iff_ne.2 (by omega);have z3:(t == 4)=false:=beq_eq_false_iff_ne.2 (by omega);have z4:(s.st == 5)=true:=beq_iff_eq.2 h5;have z5:(t == 2)=true:=beq_iff_eq.2 t2;have M0:=lh (aY.start h);have g13:=M0.out.at_.e.cell (i:=13) (v:=.int .i64 s.st) rfl;have g11:=M0.out.at_.e.cell (i:=11) (v:=↑(π P.y)) rfl;have HN:=lh (JE P.y s.y W h.y);clear ho h5 t2;go_enter func174,ntmps174;go_wp2_with fail;refine (HN.out).mono ?_;rintro e w1 ⟨rfl,hy,hg⟩;have MF:=lh (aY.cy h hy hg);clear h hy hg;have y13:=MF.out.at_.e.free 13;have y14:=MF.out.at_.e.free 14;have y15:=MF.out.at_.e.free 15;have d13:=MF.out.at_.e.cell (i:=13) (v:=.int .i64 s.st) rfl;have d14:=MF.out.at_.e.cell (i:=14) (v:=↑s.began) rfl;have d15:=MF.out.at_.e.cell (i:=15) (v:=↑s.rounds) rfl;have MZ:=lh (((MF.out.set (s':={{s with y:=s.y.next} with st:=t}) 13 (.int .i64 t) rfl rfl rfl rfl rfl).set (s':={{s with y:=s.y.next} with st:=t,began:=now}) 14 ↑now rfl rfl rfl rfl rfl).set (s':={{s with y:=s.y.next} with st:=t,began:=now,rounds:=0}) 15 ↑ζ rfl rfl rfl rfl rfl);go_wp2_with fail;go_end0
 exact MZ.out.post
theorem nT {B:Own} {P:EP} {s:ES} (now:Nat) (t:Int) (W:World) (h:aG W B P s) (ho:s.ok k) (hn:t≠s.st) (h6:s.st=6):
  Calls prog 174 #[↑(π P.b),↑now,.int .i64 t] W (aZ B P (.returned (.tuple #[])) {{s with ended:=now,cwnd:=max s.cwnd s.kept} with st:=t,began:=now,rounds:=0} W):=by
 have z0:(t == s.st)=false:=beq_eq_false_iff_ne.2 (hn);have z1:(s.st == 6)=true:=beq_iff_eq.2 h6;have M0:=lh (aY.start h);have g13:=M0.out.at_.e.cell (i:=13) (v:=.int .i64 s.st) rfl;have g20:=M0.out.at_.e.cell (i:=20) (v:=↑s.ended) rfl;have y20:=M0.out.at_.e.free 20;have hm:max (s.cwnd:Int) (s.kept:Int)=((max s.cwnd s.kept:Nat):Int):=by omega
 have M1:=lh (M0.out.set (s':={s with ended:=now}) 20 ↑now rfl rfl rfl rfl rfl);have MF:=lh (M1.out.set (s':={s with ended:=now,cwnd:=max s.cwnd s.kept}) 18 ↑(max s.cwnd s.kept:Nat) rfl rfl rfl rfl rfl).drew;have g18:=M1.out.at_.e.cell (i:=18) (v:=↑s.cwnd) rfl;have g19:=M1.out.at_.e.cell (i:=19) (v:=↑s.kept) rfl;have y18:=M1.out.at_.e.free 18;clear h ho hn h6;go_enter func174,ntmps174;go_wp2_with fail;generalize W.setCell ⟨P.b,20,none⟩ ↑now=w1 at *;go_region
 have y13:=M1.out.at_.e.free 13;have y14:=M1.out.at_.e.free 14;have y15:=M1.out.at_.e.free 15;have d13:=M1.out.at_.e.cell (i:=13) (v:=.int .i64 s.st) rfl;have d14:=M1.out.at_.e.cell (i:=14) (v:=↑s.began) rfl;have d15:=M1.out.at_.e.cell (i:=15) (v:=↑s.rounds) rfl;have MZ:=lh (((MF.out.set (s':={{s with ended:=now,cwnd:=max s.cwnd s.kept} with st:=t}) 13 (.int .i64 t) rfl rfl rfl rfl rfl).set (s':={{s with ended:=now,cwnd:=max s.cwnd s.kept} with st:=t,began:=now}) 14 ↑now rfl rfl rfl rfl rfl).set (s':={{s with ended:=now,cwnd:=max s.cwnd s.kept} with st:=t,began:=now,rounds:=0}) 15 ↑ζ rfl rfl rfl rfl rfl);go_wp2_with fail;go_end0
 exact MZ.out.post

def EvS.smp (x:EvS):Array Value:=#[↑x.sd,↑x.si,↑x.sr,↑x.rt,.bool x.sl]
structure eP (W:World) (B:Own) (P:EP) (s:ES) (x:EvS) (w:World):Prop where
 m:aX W B P s x w
 sm:Blk w (W.heap.size + 1) 130 x.smp
theorem eP.to {W w w':World} {B:Own} {P:EP} {s:ES} {x:EvS} (h:eP W B P s x w) (k:Below ↑w w w'):eP W B P s x w':=⟨h.m.to k,h.sm.keep k⟩
theorem eP.drew {W w:World} {B:Own} {P:EP} {s:ES} {x:EvS} (h:eP W B P s x w):eP W B P s x w.drew:=h.to ((aB.drew w).below _)
theorem eP.cat {w:World} {B:Own} {P:EP} {s s':ES} {x:EvS} (h:eP W B P s x w) (k:aY w B P s' w'):eP W B P s' x w':=⟨aY.mi h.m k,k.kt _ (by decide) _ _ h.sm⟩
theorem eP.start {W:World} {B:Own} {P:EP} {s:ES} (h:aG W B P s) (x:EvS):eP W B P s x ((W.alloc (.cells x.cells 137)).alloc (.cells x.smp 130)):=
 ⟨(aX.start h x).to (aC _ _),Blk.new1 W _ _ _⟩
def lF (W:World) (B:Own) (P:EP) (x:EvS) (w:World):Prop:=∃s,eP W B P s x w
theorem dF {w:World} {B:Own} {P:EP} {s:ES} {x:EvS} (h:Hid (eP W B P s x w)):Hid (lF W B P x w):=lh ⟨s,h.out⟩
theorem jU {w:World} {B:Own} {P:EP} {x:EvS} (h:Hid (lF W B P x w)) (k:Below ↑w w w'):Hid (lF W B P x w'):=by
 obtain ⟨s,q⟩:=h.out;exact lh ⟨s,q.to k⟩
theorem xA {B:Own} {P:EP} {x:EvS} (hv:x.cells[i]? =some v):∀w,Hid (lF W B P x w)→w.cell? ⟨W.heap.size,i,none⟩=some v:=fun w q=>by
 obtain ⟨s,h⟩:=q.out;exact h.m.ev.cell hv
theorem sN {B:Own} {P:EP} {x:EvS} (hv:x.smp[i]? =some v):∀w,Hid (lF W B P x w)→w.cell? ⟨W.heap.size + 1,i,none⟩=some v:=fun w q=>by
 obtain ⟨s,h⟩:=q.out;exact h.sm.cell hv
theorem zS {B:Own} {P:EP} {x:EvS} (hv:∀s,(dY P s)[i]? =some v):∀w,Hid (lF W B P x w)→w.cell? ⟨P.b,i,none⟩=some v:=fun w q=>by
 obtain ⟨s,h⟩:=q.out;exact h.m.at_.e.cell (hv s)
theorem RX {B:Own} {P:EP} {s:ES} {x:EvS} (hv:(dY P s)[i]? =some v):∀w,Hid (eP W B P s x w)→w.cell? ⟨P.b,i,none⟩=some v:=fun w q=>q.out.m.at_.e.cell hv
theorem RY {w:World} {B:Own} {P:EP} {s:ES} {x:EvS} (h:Hid (eP W B P s x w)) (k:Below ↑w w w'):Hid (eP W B P s x w'):=lh (h.out.to k)
theorem put_any (y:CY) (p x b:Nat) (W:World) (hy:j6 W p y) (h:W.cell? ⟨b,0,none⟩=some ↑x) (hne:b≠p):
  Calls prog 219 #[↑(π p),.slice (some ⟨b,0,none⟩) 1 1] W fun e w'=>e=.returned (.tuple #[])∧j6 w' p (y.put [x])∧W.grownBy w' (some p):=
 NY p y (some ⟨b,0,none⟩) 1 [x] W hy (fun _=>⟨b,0,rfl,World.block_lt_of_cell? W _ h,fun i hi=>by
  match i,hi with
  | 0,_=>exact h⟩) (fun _ a ha=>by cases ha;exact hne) (by simp)
theorem nU (W:World) (b x:Nat) (T:TypeId) (hb:b=W.heap.size):(W.alloc (.cells #[↑x] T)).cell? ⟨b,0,none⟩=some ↑x:=by subst hb;exact aN rfl rfl
theorem qL {B:Own} {P:EP} {s:ES} {now sd si sr rt dl ac lo fl:Nat} {sl:Bool} (hx:EvS.ok ⟨now,sd,si,sr,rt,sl,false,dl,ac,lo,fl⟩) (W:World) (h:aG W B P s) (ho:s.ok k):
  Calls prog 170 #[↑(π P.b),EvS.val ⟨now,sd,si,sr,rt,sl,false,dl,ac,lo,fl⟩] W (aZ B P (.returned (.bool false)) {s with f:=s.f.to now} W):=by
 have M0:=lh (aX.start h ⟨now,sd,si,sr,rt,sl,false,dl,ac,lo,fl⟩);obtain ⟨g,hg,hf⟩:=M0.out.drew.at_.f;have HT:=lh (MV P.a P.r g now s.f _ hf ho.f hx.now);have HF:=lh hf;have M1:=lh M0.out.drew;have c10:=M1.out.at_.e.cell (i:=10) (v:=↑(π P.a)) rfl;have e0:=M1.out.ev.cell (i:=0) (v:=↑now) rfl;clear h ho hx hf;unfold EvS.val;simp only [EvS.cells] at M0 M1 HT HF c10 e0 ⊢;go_enter func170,ntmps170;go_wp2_with fail;generalize W.alloc (.cells #[↑now,↑sd,↑si,↑sr,↑rt,.bool sl,.bool false,↑dl,↑ac,↑lo,↑fl] 137)=w0 at *;go_region_with (first
  | (go_at_call 217;(refine HT.out.mono ?_);rintro e w1 hp;obtain rfl:=hp.e;have M2:=lh (aY.mi M1.out (aY.fl M1.out.at_ hg HF.out hp));clear hp))
 all_goals
  clear M0 M1 c10 e0 HT;go_wp2_with fail;go_ret;exact ⟨rfl,M2.out.at_,M2.out.bel,M2.out.kt⟩
theorem qM {B:Own} {P:EP} {s:ES} {now sd si sr rt dl ac lo fl:Nat} (hx:EvS.ok ⟨now,sd,si,sr,rt,false,true,dl,ac,lo,fl⟩) (W:World) (h:aG W B P s) (ho:s.ok k) (hk:k≤900):
  Calls prog 170 #[↑(π P.b),EvS.val ⟨now,sd,si,sr,rt,false,true,dl,ac,lo,fl⟩] W (aZ B P (.returned (.bool (s.n.ackB (Pl.subS dl sd)))) {s with f:=s.f.put now rt,y:=s.y.put [sr],n:=s.n.ackS (Pl.subS dl sd) dl} W):=by
 have M0:=lh (eP.start h ⟨now,sd,si,sr,rt,false,true,dl,ac,lo,fl⟩);have M1:=lh M0.out.drew;obtain ⟨g,hg,hf⟩:=M1.out.m.at_.f;have HP:=lh (DQ P.a P.r g now rt s.f _ hf ho.f hx.now);have HF:=lh hf;have HB:=lh (fun w h=>l6 P.y s.y w h);have HC:=lh (fun b w=>put_any s.y P.y sr b w);have HS:=lh (fun b w hw=>i7 dl sd b hx.dl hx.sd w hw);have HA:=lh (fun w h=>CK P.n (Pl.subS dl sd) dl s.n w h (Nat.lt_of_le_of_lt ho.nn (by omega)));have p10:=zS (W:=W) (B:=B) (P:=P) (x:=⟨now,sd,si,sr,rt,false,true,dl,ac,lo,fl⟩) (i:=10) (v:=↑(π P.a)) (fun _=>rfl);have p11:=zS (W:=W) (B:=B) (P:=P) (x:=⟨now,sd,si,sr,rt,false,true,dl,ac,lo,fl⟩) (i:=11) (v:=↑(π P.y)) (fun _=>rfl);have p12:=zS (W:=W) (B:=B) (P:=P) (x:=⟨now,sd,si,sr,rt,false,true,dl,ac,lo,fl⟩) (i:=12) (v:=↑(π P.n)) (fun _=>rfl);have v0:=xA (W:=W) (B:=B) (P:=P) (x:=⟨now,sd,si,sr,rt,false,true,dl,ac,lo,fl⟩) (i:=0) (v:=↑now) rfl;have v7:=xA (W:=W) (B:=B) (P:=P) (x:=⟨now,sd,si,sr,rt,false,true,dl,ac,lo,fl⟩) (i:=7) (v:=↑dl) rfl;have q0:=sN (W:=W) (B:=B) (P:=P) (x:=⟨now,sd,si,sr,rt,false,true,dl,ac,lo,fl⟩) (i:=0) (v:=↑sd) rfl;have q2:=sN (W:=W) (B:=B) (P:=P) (x:=⟨now,sd,si,sr,rt,false,true,dl,ac,lo,fl⟩) (i:=2) (v:=↑sr) rfl;have q3:=sN (W:=W) (B:=B) (P:=P) (x:=⟨now,sd,si,sr,rt,false,true,dl,ac,lo,fl⟩) (i:=3) (v:=↑rt) rfl;have q4:=sN (W:=W) (B:=B) (P:=P) (x:=⟨now,sd,si,sr,rt,false,true,dl,ac,lo,fl⟩) (i:=4) (v:=.bool false) rfl;clear h ho hx hf hk;unfold EvS.val;generalize hX:(EvS.mk now sd si sr rt false true dl ac lo fl)=X at *;have HE:Hid (X.cells=#[↑now,↑sd,↑si,↑sr,↑rt,.bool false,.bool true,↑dl,↑ac,↑lo,↑fl]):=lh (by rw [← hX];rfl);have HSm:Hid (X.smp=#[↑sd,↑si,↑sr,↑rt,.bool false]):=lh (by rw [← hX];rfl);clear hX;rw [HE.out] at M0 M1 HP HF ⊢;rw [HSm.out] at M0 M1 HP HF;go_enter func170,ntmps170;go_wp2_with fail;generalize ((W.alloc (.cells #[↑now,↑sd,↑si,↑sr,↑rt,.bool false,.bool true,↑dl,↑ac,↑lo,↑fl] 137)).alloc (.cells #[↑sd,↑si,↑sr,↑rt,.bool false] 130))=w0 at *;have X1:=dF M1;go_region_held3 (fun w'=>Hid (lF W B P X w'))
  (first | with_reducible exact X1 | with_reducible exact X2)
  (first
   | (go_at_call 218;(with_reducible refine HP.out.mono ?_);rintro e w1 hp;obtain rfl:=hp.e;have M2:=lh (M1.out.cat (aY.fl M1.out.m.at_ hg HF.out hp));have X2:=dF M2;clear hp))
 clear HP HF M0 M1 X1;go_wp2_with fail;have M3:=lh M2.out.drew;clear X2;have b4:=q4 _ (dF M2);go_region
 have M4:=M3;clear M2 HB b4;go_wp2_with fail;have M5:=lh M4.out.drew;have X5:=dF M5;go_region_held3 (fun w'=>Hid (lF W B P X w'))
  (first | with_reducible exact X5 | with_reducible exact jU X5 (aC _ _) | with_reducible exact jU (by assumption) (aC _ _) | with_reducible exact jU (by assumption) (cK _ _) | with_reducible exact X6 | with_reducible exact dF (lh (M4.out.to (cK _ _))))
  (first
   | (go_at_call 219;(refine (HC.out _ _ (by first | exact (M4.out.to (cK _ _)).m.at_.y | exact (M5.out.to (aC _ _)).m.at_.y) (by first | exact aO (nU _ _ _ _ (by simp)) | exact nU _ _ _ _ (by simp)) (Nat.ne_of_gt (Blk.lt M4.out.m.at_.y))).mono ?_);rintro e w3 ⟨rfl,hy,hgr⟩;have M6:Hid (eP W B P {s with f:=s.f.put now rt,y:=s.y.put [sr]} X w3):=(by first | exact lh ((M4.out.to (cK _ _)).cat (aY.cy (M4.out.to (cK _ _)).m.at_ hy hgr)) | exact lh ((M5.out.to (aC _ _)).cat (aY.cy (M5.out.to (aC _ _)).m.at_ hy hgr)));have X6:=dF M6;clear hy hgr))
 clear M4 M5 X5 X6;go_wp2_with fail;have M7:=lh M6.out.drew;have X7:=dF M7;go_region_held3 (fun w'=>Hid (lF W B P X w'))
  (first | with_reducible exact X7 | with_reducible exact jU X7 (aC _ _) | with_reducible assumption | with_reducible exact jU (by assumption) (aC _ _) | with_reducible exact jU (by assumption) (cK _ _) | with_reducible exact X8 | with_reducible exact dF (lh (M6.out.to (cK _ _))))
  (first
   | (go_at_call 92;(refine (HS.out _ _ (by first | exact aO (nU _ _ _ _ (by simp)) | exact nU _ _ _ _ (by simp))).mono ?_);rintro e w4 ⟨rfl,rfl⟩)
   | (go_at_call 220;(refine (HA.out _ (by first | exact (M6.out.to (cK _ _)).m.at_.n | exact (M7.out.to (aC _ _)).m.at_.n)).mono ?_);rintro e w5 hp;obtain rfl:=hp.e;have M8:Hid (eP W B P {s with f:=s.f.put now rt,y:=s.y.put [sr],n:=s.n.ackS (Pl.subS dl sd) dl} X w5):=(by first | exact lh ((M6.out.to (cK _ _)).cat (aY.ct (M6.out.to (cK _ _)).m.at_ hp.blk hp.gr)) | exact lh ((M7.out.to (aC _ _)).cat (aY.ct (M7.out.to (aC _ _)).m.at_ hp.blk hp.gr)));have X8:=dF M8;clear hp))
 go_wp2_with fail;go_ret;exact ⟨rfl,M8.out.m.at_,M8.out.m.bel,M8.out.m.kt⟩
theorem iP:(∀{B:Own} {k:Nat} {P:EP} {s:ES} {now sd si sr rt dl ac lo fl:Nat} (hx:EvS.ok ⟨now,sd,si,sr,rt,true,true,dl,ac,lo,fl⟩) (W:World) (h:aG W B P s) (ho:s.ok k) (hk:k≤900) (hb:s.y.best≤sr),Calls prog 170 #[↑(π P.b),EvS.val ⟨now,sd,si,sr,rt,true,true,dl,ac,lo,fl⟩] W (aZ B P (.returned (.bool (s.n.ackB (Pl.subS dl sd)))) {s with f:=s.f.put now rt,y:=s.y.put [sr],n:=s.n.ackS (Pl.subS dl sd) dl} W))∧(∀{B:Own} {k:Nat} {P:EP} {s:ES} {now sd si sr rt dl ac lo fl:Nat} (hx:EvS.ok ⟨now,sd,si,sr,rt,true,true,dl,ac,lo,fl⟩) (W:World) (h:aG W B P s) (ho:s.ok k) (hk:k≤900) (hb:¬ s.y.best≤sr),Calls prog 170 #[↑(π P.b),EvS.val ⟨now,sd,si,sr,rt,true,true,dl,ac,lo,fl⟩] W (aZ B P (.returned (.bool (s.n.ackB (Pl.subS dl sd)))) {s with f:=s.f.put now rt,y:=s.y,n:=s.n.ackS (Pl.subS dl sd) dl} W)):=by
 refine ⟨?_,?_⟩
 have k0v:Hid True:=trivial;rotate_left;have k1v:Hid True:=trivial;rotate_left
 all_goals intro B k P s now sd si sr rt dl ac lo fl hx W h ho hk hb
 all_goals
  first
  |revert k0v;intro k0v;have d0:decide ((s.y.best:Int)≤(sr:Int))=true:=decide_eq_true (by omega);have d1:decide (s.y.best≤sr)=true:=decide_eq_true hb
  |have d0:decide ((s.y.best:Int)≤(sr:Int))=false:=decide_eq_false (by omega);have d1:decide (s.y.best≤sr)=false:=decide_eq_false hb
  clear hb;have M0:=lh (eP.start h ⟨now,sd,si,sr,rt,true,true,dl,ac,lo,fl⟩);have M1:=lh M0.out.drew;obtain ⟨g,hg,hf⟩:=M1.out.m.at_.f;have HP:=lh (DQ P.a P.r g now rt s.f _ hf ho.f hx.now);have HF:=lh hf;have HB:=lh (fun w h=>l6 P.y s.y w h);have HC:=lh (fun b w=>put_any s.y P.y sr b w);have HS:=lh (fun b w hw=>i7 dl sd b hx.dl hx.sd w hw);have HA:=lh (fun w h=>CK P.n (Pl.subS dl sd) dl s.n w h (Nat.lt_of_le_of_lt ho.nn (by omega)));have p10:=zS (W:=W) (B:=B) (P:=P) (x:=⟨now,sd,si,sr,rt,true,true,dl,ac,lo,fl⟩) (i:=10) (v:=↑(π P.a)) (fun _=>rfl);have p11:=zS (W:=W) (B:=B) (P:=P) (x:=⟨now,sd,si,sr,rt,true,true,dl,ac,lo,fl⟩) (i:=11) (v:=↑(π P.y)) (fun _=>rfl);have p12:=zS (W:=W) (B:=B) (P:=P) (x:=⟨now,sd,si,sr,rt,true,true,dl,ac,lo,fl⟩) (i:=12) (v:=↑(π P.n)) (fun _=>rfl);have v0:=xA (W:=W) (B:=B) (P:=P) (x:=⟨now,sd,si,sr,rt,true,true,dl,ac,lo,fl⟩) (i:=0) (v:=↑now) rfl;have v7:=xA (W:=W) (B:=B) (P:=P) (x:=⟨now,sd,si,sr,rt,true,true,dl,ac,lo,fl⟩) (i:=7) (v:=↑dl) rfl;have q0:=sN (W:=W) (B:=B) (P:=P) (x:=⟨now,sd,si,sr,rt,true,true,dl,ac,lo,fl⟩) (i:=0) (v:=↑sd) rfl;have q2:=sN (W:=W) (B:=B) (P:=P) (x:=⟨now,sd,si,sr,rt,true,true,dl,ac,lo,fl⟩) (i:=2) (v:=↑sr) rfl;have q3:=sN (W:=W) (B:=B) (P:=P) (x:=⟨now,sd,si,sr,rt,true,true,dl,ac,lo,fl⟩) (i:=3) (v:=↑rt) rfl;have q4:=sN (W:=W) (B:=B) (P:=P) (x:=⟨now,sd,si,sr,rt,true,true,dl,ac,lo,fl⟩) (i:=4) (v:=.bool true) rfl;clear h ho hx hf hk;unfold EvS.val;generalize hX:(EvS.mk now sd si sr rt true true dl ac lo fl)=X at *;have HE:Hid (X.cells=#[↑now,↑sd,↑si,↑sr,↑rt,.bool true,.bool true,↑dl,↑ac,↑lo,↑fl]):=lh (by rw [← hX];rfl);have HSm:Hid (X.smp=#[↑sd,↑si,↑sr,↑rt,.bool true]):=lh (by rw [← hX];rfl);clear hX;rw [HE.out] at M0 M1 HP HF ⊢;rw [HSm.out] at M0 M1 HP HF;go_enter func170,ntmps170;go_wp2_with fail;generalize ((W.alloc (.cells #[↑now,↑sd,↑si,↑sr,↑rt,.bool true,.bool true,↑dl,↑ac,↑lo,↑fl] 137)).alloc (.cells #[↑sd,↑si,↑sr,↑rt,.bool true] 130))=w0 at *;have X1:=dF M1;go_region_held3 (fun w'=>Hid (lF W B P X w'))
   (first | with_reducible exact X1 | with_reducible exact X2)
   (first
    | (go_at_call 218;(with_reducible refine HP.out.mono ?_);rintro e w1 hp;obtain rfl:=hp.e;have M2:=lh (M1.out.cat (aY.fl M1.out.m.at_ hg HF.out hp));have X2:=dF M2;clear hp))
  clear HP HF M0 M1 X1;go_wp2_with fail;have M3:=lh M2.out.drew;clear X2;have X3:=dF M3;have i11:=RX (W:=W) (B:=B) (P:=P) (s:={s with f:=s.f.put now rt}) (x:=X) (i:=11) (v:=↑(π P.y)) rfl;have i2:=fun w (q:Hid (eP W B P {s with f:=s.f.put now rt} X w))=>q2 w (dF q);have i4:=fun w (q:Hid (eP W B P {s with f:=s.f.put now rt} X w))=>q4 w (dF q);go_region_held3 (fun w'=>Hid (eP W B P {s with f:=s.f.put now rt} X w'))
   (first | with_reducible exact RY (by assumption) hb | with_reducible exact M3)
   (first
    | (go_at_call 88;(with_reducible refine (HB.out _ M3.out.m.at_.y).mono ?_);rintro e w2 ⟨rfl,hb⟩))
  have M4:Hid (eP W B P {s with f:=s.f.put now rt} X w2):=lh (M3.out.to hb);clear i11 i2 i4 X3 hb;clear M2 M3 HB;go_wp2_with fail;first
  |revert k1v;intro k1v;have M7:=lh M4.out.drew;have X7:=dF M7;go_region_held3 (fun w'=>Hid (lF W B P X w'))
    (first | with_reducible exact X7 | with_reducible exact jU X7 (aC _ _) | with_reducible assumption | with_reducible exact jU (by assumption) (aC _ _) | with_reducible exact jU (by assumption) (cK _ _) | with_reducible exact X8 | with_reducible exact dF (lh (M4.out.to (cK _ _))))
    (first
     | (go_at_call 92;(refine (HS.out _ _ (by first | exact aO (nU _ _ _ _ (by simp)) | exact nU _ _ _ _ (by simp))).mono ?_);rintro e w4 ⟨rfl,rfl⟩)
     | (go_at_call 220;(refine (HA.out _ (by first | exact (M4.out.to (cK _ _)).m.at_.n | exact (M7.out.to (aC _ _)).m.at_.n)).mono ?_);rintro e w5 hp;obtain rfl:=hp.e;have M8:Hid (eP W B P {s with f:=s.f.put now rt,y:=s.y,n:=s.n.ackS (Pl.subS dl sd) dl} X w5):=(by first | exact lh ((M4.out.to (cK _ _)).cat (aY.ct (M4.out.to (cK _ _)).m.at_ hp.blk hp.gr)) | exact lh ((M7.out.to (aC _ _)).cat (aY.ct (M7.out.to (aC _ _)).m.at_ hp.blk hp.gr)));have X8:=dF M8;clear hp))
  |have M5:=lh M4.out.drew;have X5:=dF M5;go_region_held3 (fun w'=>Hid (lF W B P X w'))
    (first | with_reducible exact X5 | with_reducible exact jU X5 (aC _ _) | with_reducible exact jU (by assumption) (aC _ _) | with_reducible exact jU (by assumption) (cK _ _) | with_reducible exact X6 | with_reducible exact dF (lh (M4.out.to (cK _ _))))
    (first
     | (go_at_call 219;(refine (HC.out _ _ (by first | exact (M4.out.to (cK _ _)).m.at_.y | exact (M5.out.to (aC _ _)).m.at_.y) (by first | exact aO (nU _ _ _ _ (by simp)) | exact nU _ _ _ _ (by simp)) (Nat.ne_of_gt (Blk.lt M4.out.m.at_.y))).mono ?_);rintro e w3 ⟨rfl,hy,hgr⟩;have M6:Hid (eP W B P {s with f:=s.f.put now rt,y:=s.y.put [sr]} X w3):=(by first | exact lh ((M4.out.to (cK _ _)).cat (aY.cy (M4.out.to (cK _ _)).m.at_ hy hgr)) | exact lh ((M5.out.to (aC _ _)).cat (aY.cy (M5.out.to (aC _ _)).m.at_ hy hgr)));have X6:=dF M6;clear hy hgr))
   clear M4 M5 X5 X6;go_wp2_with fail;have M7:=lh M6.out.drew;have X7:=dF M7;go_region_held3 (fun w'=>Hid (lF W B P X w'))
    (first | with_reducible exact X7 | with_reducible exact jU X7 (aC _ _) | with_reducible assumption | with_reducible exact jU (by assumption) (aC _ _) | with_reducible exact jU (by assumption) (cK _ _) | with_reducible exact X8 | with_reducible exact dF (lh (M6.out.to (cK _ _))))
    (first
     | (go_at_call 92;(refine (HS.out _ _ (by first | exact aO (nU _ _ _ _ (by simp)) | exact nU _ _ _ _ (by simp))).mono ?_);rintro e w4 ⟨rfl,rfl⟩)
     | (go_at_call 220;(refine (HA.out _ (by first | exact (M6.out.to (cK _ _)).m.at_.n | exact (M7.out.to (aC _ _)).m.at_.n)).mono ?_);rintro e w5 hp;obtain rfl:=hp.e;have M8:Hid (eP W B P {s with f:=s.f.put now rt,y:=s.y.put [sr],n:=s.n.ackS (Pl.subS dl sd) dl} X w5):=(by first | exact lh ((M6.out.to (cK _ _)).cat (aY.ct (M6.out.to (cK _ _)).m.at_ hp.blk hp.gr)) | exact lh ((M7.out.to (aC _ _)).cat (aY.ct (M7.out.to (aC _ _)).m.at_ hp.blk hp.gr)));have X8:=dF M8;clear hp))
  go_wp2_with fail;go_ret;exact ⟨rfl,M8.out.m.at_,M8.out.m.bel,M8.out.m.kt⟩
theorem vA {B:Own} {P:EP} {s:ES} (x:EvS) (hx:x.ok) (W:World) (h:aG W B P s) (ho:s.ok k) (hk:k≤900):
  Calls prog 170 #[↑(π P.b),x.val] W (aZ B P (.returned (.bool (s.over x))) (s.mea x) W):=by
 obtain ⟨now,sd,si,sr,rt,sl,sm,dl,ac,lo,fl⟩:=x;cases sm with
 | false=>
   have:=qL hx W h ho;simpa [ES.over,ES.mea] using this
 | true=>
   cases sl with
   | false=>
     have:=qM hx W h ho hk;simpa [ES.over,ES.mea,ES.rput] using this
   | true=>
     by_cases hb:s.y.best≤sr
     ·have:=iP.1 hx W h ho hk hb
      simpa [ES.over,ES.mea,ES.rput,hb] using this
     ·have:=iP.2 hx W h ho hk hb
      simpa [ES.over,ES.mea,ES.rput,hb] using this
end
end Go.Proofs.YtjhiooggnpbecaaGreatDoor
