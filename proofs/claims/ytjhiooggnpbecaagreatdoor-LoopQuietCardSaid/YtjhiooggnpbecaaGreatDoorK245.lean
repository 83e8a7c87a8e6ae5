/- Lemmas. -/
import Derived.Test.YtjhiooggnpbecaaGreatDoorK238
set_option linter.unusedVariables false
namespace Go.Proofs.YtjhiooggnpbecaaGreatDoor
open Go.RowKit Cf
namespace LN
structure Quiet (c:Setup) (x:LN):Prop where
 w:x.s.w=0
 o:x.s.L.out=[]
 e:x.s.e=ES.new c
 q:x.k.q.l=[]
 j:x.k.j.l=[]
 z:x.k.came=0∧x.k.served=0∧x.k.deliv=0∧x.k.q.lost=0∧x.k.q.n=0
 t:x.s.c.p=false→x.s.c.t≤x.k.t
theorem Quiet.start (c:Setup) (r d j b:Nat):Quiet c ⟨SN.new c,LKS.start r d j b⟩:=⟨rfl,rfl,rfl,rfl,rfl,⟨rfl,rfl,rfl,rfl,rfl⟩,fun _=>Nat.zero_le _⟩
theorem tick_quiet {k:LKS} (hq:k.q.l=[]) (hj:k.j.l=[]) (now x:Nat) (cs:List Nat):k.tickOut now x cs=[]∧(k.tick now x cs).q=k.q∧(k.tick now x cs).j.l=[]∧(k.tick now x cs).came=k.came∧(k.tick now x cs).served=k.served∧(k.tick now x cs).deliv=k.deliv∧(k.tick now x cs).t=now:=by
 have hs:k.q.someQ=false:=by unfold QK.someQ;rw [hq];rfl
 have hm:(k.toT now).may=false:=by unfold LKS.may;rw [LKS.toT_q,hs];rfl
 have ha:k.ahead now x cs=(k.toT now).wasteK x:=by
  unfold LKS.ahead;rw [LKS.serve_no hm];unfold LKS.wasteL;rw [LKS.toT_q,hs];rfl
 have ho:k.tickOut now x cs=[]:=by
  unfold LKS.tickOut LKS.out BxS.told;rw [ha,LKS.wasteK_j,LKS.toT_j,hj];rfl
 have ho':((k.toT now).wasteK x).out=[]:=by rw [← ha];exact ho
 unfold LKS.tick;rw [ha];refine ⟨ho,?_,?_,?_,?_,?_,?_⟩
 ·rw [LKS.deliver_q,LKS.wasteK_q,LKS.toT_q]
 ·rw [LKS.deliver_j,LKS.wasteK_j,LKS.toT_j];unfold BxS.outB;rw [hj];rfl
 ·rw [LKS.deliver_came,LKS.wasteK_came,LKS.toT_came]
 ·rw [LKS.deliver_served,LKS.wasteK_served,LKS.toT_served]
 ·rw [LKS.deliver_deliv,LKS.wasteK_deliv,LKS.toT_deliv,ho',fW];rfl
 ·rw [LKS.deliver_t,LKS.wasteK_t,LKS.toT_t]
theorem stick_quiet {s:SN} (hw:s.w=0) (ho:s.L.out=[]) (now:Nat):s.tickL now=[]∧(s.tickS now).w=0∧(s.tickS now).L.out=[]∧(s.tickS now).e=s.e∧(s.tickS now).c=s.c.toS now:=by
 by_cases h:s.c.toE now=0
 ·have hpre:=SN.pre_none (now:=now) ho (by omega)
  have hpc:s.paced now={s.tim now with p:=s.p.tickS now s.e.pace s.e.quant}:=by unfold SN.paced;rw [hpre];rfl
  have hr:(s.paced now).run=(s.paced now,[]):=by
   unfold SN.run;exact SN.gos_zero (by rw [hpc];exact hw) _
  obtain ⟨a1,a2,a3,a4,a5,a6⟩:=SN.rest_eq (s.paced now);unfold SN.tickL SN.tickS;rw [if_pos h,if_pos h,hr];refine ⟨rfl,?_,?_,?_,?_⟩
  ·show (s.paced now).rest.w=0;rw [a6,hpc];exact hw
  ·show (s.paced now).rest.L.out=[];rw [a2,hpc];exact ho
  ·show (s.paced now).rest.e=s.e;rw [a4,hpc];rfl
  ·show (s.paced now).rest.c=s.c.toS now;rw [a1,hpc];rfl
 ·obtain ⟨e1,e2⟩:=SN.tick_no h
  rw [e1,e2];exact ⟨rfl,hw,ho,rfl,rfl⟩
theorem Quiet.step {c:Setup} {i d:Nat} {x:LN} (h:Quiet c x) (ho:x.ok c i d) (t:StV) (h0:t.w=0):Quiet c (x.step t)∧x.nd t=0∧x.ns t=0∧x.nk t=0∧(x.err t=0↔(x.step t).s.c.p=false):=by
 have hn:x.s.c.n≤72057594037927936:=ho.s.cl.2;have hge:=now_ge ho.k t;have hs1c:(x.s1 t).c=x.s.c:=by
  show x.s.c.countS t.w=x.s.c
  unfold CS.countS;rw [h0];split
  ·rfl
  ·rw [if_neg (by omega)];rfl
 have hs1w:(x.s1 t).w=0:=by
  show (if x.s.c.countE t.w=0 then Pl.addS x.s.w t.w else x.s.w)=0
  rw [h.w,h0];split <;> rfl
 have hs1o:(x.s1 t).L.out=[]:=h.o;have hs1e:(x.s1 t).e=ES.new c:=h.e;obtain ⟨k1,k2,k3,k4,k5,k6,k7⟩:=tick_quiet h.q h.j (x.now t) t.x t.cs;have hout:x.out t=[]:=k1;have hae:x.ae t=0:=by unfold LN.ae;rw [if_pos hout]
 have hs2:x.s2 t=x.s1 t:=by unfold LN.s2;rw [if_pos hout]
 obtain ⟨t1,t2,t3,t4,t5⟩:=stick_quiet hs1w hs1o (x.now t);have hg:x.gone t=[]:=by unfold LN.gone;rw [hs2];exact t1
 by_cases hw:x.s.writeE t.w=0
 ·have hp:x.s.c.p=false:=by
   have e:x.s.c.countE t.w=0:=hw;unfold CS.countE at e;cases hq:x.s.c.p with
   | false=>rfl
   | true=>rw [hq,if_pos rfl] at e;cases e
  have e1:x.step t=⟨(x.s1 t).tickS (x.now t),x.k1 t⟩:=by
   unfold LN.step;rw [if_neg (by simp [hw]),if_neg (by simp [hae]),hg,hs2];rfl
  have e2:x.err t=(x.s1 t).tickE (x.now t):=by
   unfold LN.err;rw [if_neg (by simp [hw]),if_neg (by simp [hae]),hs2]
  rw [e1,e2];have hle:x.s.c.t≤x.now t:=Nat.le_trans (h.t hp) hge;refine ⟨⟨t2,t3,t4.trans hs1e,k2.symm▸h.q,k3,?_,?_⟩,?_,?_,?_,?_⟩
  ·show (x.k1 t).came=0∧(x.k1 t).served=0∧(x.k1 t).deliv=0∧(x.k1 t).q.lost=0∧(x.k1 t).q.n=0
   unfold LN.k1;rw [k2,k4,k5,k6];exact h.z
  ·intro hp2
   show ((x.s1 t).tickS (x.now t)).c.t≤(x.k1 t).t
   unfold LN.k1;rw [k7,t5,hs1c];have hp3:((x.s1 t).tickS (x.now t)).c.p=false:=hp2;rw [t5,hs1c] at hp3;unfold CS.toS at hp3 ⊢;rw [hp] at hp3 ⊢;rw [if_neg (by decide),if_neg (by omega)] at hp3 ⊢;split at hp3
   ·cases hp3
   ·rw [if_neg (by assumption)];exact Nat.le_refl _
  ·unfold LN.nd;rw [if_neg (by simp [hw]),hout];rfl
  ·unfold LN.ns;rw [if_neg (by simp [hw]),if_neg (by simp [hae]),hg];rfl
  ·unfold LN.nk;rw [if_neg (by simp [hw]),if_neg (by simp [hae]),hg];rfl
  ·show (x.s1 t).c.toE (x.now t)=0↔((x.s1 t).tickS (x.now t)).c.p=false
   rw [t5,hs1c];unfold CS.toE CS.toS;have hlt:¬ x.now t < x.s.c.t:=by omega
   simp only [hp,if_neg hlt,Bool.false_eq_true,if_false];by_cases q:4398046511104 < x.now t
   ·rw [if_pos q,if_pos q];simp
   ·rw [if_neg q,if_neg q];simp
 ·have hp:x.s.c.p=true:=by
   have e:x.s.c.countE t.w≠0:=hw;unfold CS.countE at e;cases hq:x.s.c.p with
   | true=>rfl
   | false=>rw [hq,if_neg (by decide),h0,if_neg (by omega)] at e;exact absurd rfl e
  have e1:x.step t=⟨x.s1 t,x.k⟩:=by unfold LN.step;rw [if_pos hw]
  have e2:x.err t=x.s.writeE t.w:=by unfold LN.err;rw [if_pos hw]
  rw [e1,e2];refine ⟨⟨hs1w,hs1o,hs1e,h.q,h.j,h.z,fun q=>?_⟩,?_,?_,?_,?_⟩
  ·have q':(x.s1 t).c.p=false:=q
   rw [hs1c,hp] at q';cases q'
  ·unfold LN.nd;rw [if_pos hw]
  ·unfold LN.ns;rw [if_pos hw]
  ·unfold LN.nk;rw [if_pos hw]
  ·show x.s.writeE t.w=0↔(x.s1 t).c.p=false
   rw [hs1c,hp];simp [hw]
theorem Quiet.facts {c:Setup} {x:LN} (h:Quiet c x):x.s.nextB=false∧x.s.L.fl=0:=by
 refine ⟨?_,by unfold PL.fl;rw [h.o];rfl⟩;unfold SN.nextB SN.fits;rw [h.w];simp
end LN
end Go.Proofs.YtjhiooggnpbecaaGreatDoor
