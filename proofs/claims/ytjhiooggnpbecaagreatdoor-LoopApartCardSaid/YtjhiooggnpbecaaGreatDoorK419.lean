/- Lemmas. -/
import Derived.Test.YtjhiooggnpbecaaGreatDoorK418
set_option linter.unusedVariables false
namespace Go.Proofs.YtjhiooggnpbecaaGreatDoor
open Go.RowKit Cf
theorem ES.mea_c (s:ES) (x:EvS):(s.mea x).c=s.c:=by unfold ES.mea;split <;> rfl
theorem ES.e3_c (s:ES) (x:EvS):(s.e3 x).c=s.c:=by
 unfold ES.e3;split
 ·exact ES.mea_c _ x
 ·exact ES.mea_c _ x
theorem ES.e4_c (s:ES) (x:EvS):(s.e4 x).c=s.c:=by
 unfold ES.e4;split
 ·exact ES.e3_c s x
 ·exact ES.e3_c s x
theorem ES.e5_c (s:ES) (x:EvS):(s.e5 x).c=s.c:=by
 unfold ES.e5;split
 ·exact ES.e4_c s x
 ·exact ES.e4_c s x
theorem ES.side_c (s:ES) (n:Nat) (t:Int):(s.side n t).c=s.c:=by
 unfold ES.side;split
 ·rfl
 ·split
  ·rfl
  ·split
   ·rfl
   ·split <;> rfl
theorem ES.turn_c (s:ES) (n:Nat) (t:Int):(s.turn n t).c=s.c:=by
 unfold ES.turn;split
 ·rfl
 ·exact ES.side_c s n t
theorem ES.e6_c (s:ES) (x:EvS):(s.e6 x).c=s.c:=(ES.turn_c _ _ _).trans (ES.e5_c s x)
theorem ES.e7_c (s:ES) (x:EvS):(s.e7 x).c=s.c:=by
 unfold ES.e7;split
 ·exact ES.e6_c s x
 ·exact ES.e6_c s x
theorem ES.on_c (s:ES) (x:EvS):(s.on x).c=s.c:=ES.e7_c s x
theorem cJ {c:Setup} (h:rightC c=true):1≤c 0∧c 0≤65535∧4≤c 1∧c 1≤1000:=by
 have h0:fits c 0=true:=by
  unfold rightC at h;exact List.all_eq_true.1 h 0 (by decide)
 have h1:fits c 1=true:=by
  unfold rightC at h;exact List.all_eq_true.1 h 1 (by decide)
 unfold fits at h0 h1;have a0:=of_decide_eq_true h0;have a1:=of_decide_eq_true h1;have b0:least 0=1∧most 0=65535∧least 1=4∧most 1=1000:=by decide
 omega
theorem oW {c:Setup} (h:rightC c=true):cS c=4 * c 0:=by
 have:=cJ h;unfold cS Pl.mulS;omega
theorem oX {c:Setup} (h:rightC c=true):dE c=c 1 * c 0∧4 * c 0≤c 1 * c 0∧c 1 * c 0≤65535000:=by
 have h1:=cJ h;have h2:4 * c 0≤c 1 * c 0:=Nat.mul_le_mul_right _ h1.2.2.1;have h3:c 1 * c 0≤1000 * 65535:=Nat.mul_le_mul h1.2.2.2 h1.2.1;unfold dE Pl.mulS;omega
structure OT (m:Nat) (s:ES):Prop where
 cl:m * 4≤s.cwnd
 pl:m * 4≤s.pace
 ql:m * 2≤s.quant
 qm:s.quant≤m * 64
 pm:s.pace≤1099511627776
 cm:s.cwnd≤72057594037927936
 st:0≤s.st∧s.st≤6
theorem xB {s:ES} {k:Nat} (ho:s.ok k) (hr:rightC s.c=true) {x:EvS} (hx:x.ok) (hk:k≤900):OT (s.c 0) (s.on x):=by
 have o1:=ES.on_ok ho hx hk;have hc:=ES.on_c s x;have hm:=cJ hr;have hl:=oW hr;have hcw:(s.on x).cwnd=min (max ((s.e7 x).o3 x.ac) (cS (s.e7 x).c)) 72057594037927936:=rfl;rw [ES.e7_c,hl] at hcw;generalize s.on x=t at *;have hp:t.pace=min (max (jZ (stG t.st) (t.bs.limit t.rate)) (cS t.c)) 1099511627776:=rfl;rw [hc,hl] at hp;have hq:t.quant=min (max (t.pace / 1000) (Pl.mulS 2 (t.c 0))) (Pl.mulS 64 (t.c 0)):=rfl;rw [hc] at hq;unfold Pl.mulS at hq;exact ⟨by omega,by omega,by omega,by omega,by omega,by omega,o1.st⟩
structure Grow (c:Setup) (s:ES):Prop where
 c:s.c=c
 st:s.st=0
 p:s.p=Pi.zero
 bs:s.bs=BS.none
 f:s.f.l=[]
 y:s.y=⟨0,0,0⟩
 lo:s.lost=0
 cl:4 * s.c 0≤s.cwnd
theorem Grow.new {c:Setup} (h:rightC c=true):Grow c (ES.new c):=by
 have:=oX h;exact ⟨rfl,rfl,rfl,rfl,rfl,rfl,rfl,by show 4 * c 0≤dE c;omega⟩
theorem Grow.pace {c:Setup} {s t:ES} (h:Grow c s) (k:Grow c t):s.pace=t.pace:=by
 have e:∀u,Grow c u→u.pace=min (max (jZ (stG 0) (BS.none.limit (Pl.shareS (dE c) 1000000 1000))) (cS c)) 1099511627776:=fun u q=>by
  have q1:u.trip=1000:=by unfold ES.trip FS.some;rw [q.f];rfl
  have q2:u.rate=Pl.shareS (dE c) 1000000 1000:=by unfold ES.rate;rw [q.y,q1,q.c];rfl
  unfold ES.pace;rw [q.st,q.bs,q2,q.c]
 rw [e s h,e t k]
theorem xC:∀i,lX i≤18446744073709551615:=by decide
theorem eQ:rightC lX=true:=by decide
end Go.Proofs.YtjhiooggnpbecaaGreatDoor
