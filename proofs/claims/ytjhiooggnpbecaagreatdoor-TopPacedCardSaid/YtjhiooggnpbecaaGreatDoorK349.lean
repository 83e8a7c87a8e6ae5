/- Lemmas. -/
import Derived.Test.YtjhiooggnpbecaaGreatDoorK321
set_option linter.unusedVariables false
namespace Go.Proofs.YtjhiooggnpbecaaGreatDoor
open Go.RowKit Cf
variable {L:List Pk} {A F Q W k m m' n rest:Nat} {s s2 s3:SN} {c:Setup}
theorem vM (s:CS) (n:Nat):(s.countS n).t=s.t:=by
 unfold CS.countS;split
 ·rfl
 ·split <;> rfl
theorem xO (s:CS):(s.toS s.t).t=s.t:=by
 unfold CS.toS;split
 ·rfl
 ·split
  ·rfl
  ·split <;> rfl
namespace SN
theorem write_pt (s:SN) (n:Nat):(s.writeS n).p=s.p∧(s.writeS n).c.t=s.c.t:=⟨rfl,vM s.c n⟩
theorem ackG_pc (s:SN) (now:Nat) (f:Pk→Bool):(s.ackG now f).p=s.p∧(s.ackG now f).c=s.c:=by
 unfold SN.ackG;split <;> exact ⟨rfl,rfl⟩
theorem ack_pt (s:SN) (ok:Bool) (f:Pk→Bool):(s.ackS s.c.t ok f).p=s.p∧(s.ackS s.c.t ok f).c.t=s.c.t:=by
 unfold SN.ackS;split
 ·exact ⟨rfl,rfl⟩
 ·split
  ·exact ⟨rfl,rfl⟩
  ·split
   ·split
    ·obtain ⟨h1,h2⟩:=ackG_pc (s.tim s.c.t) s.c.t f
     rw [h1,h2];exact ⟨rfl,xO s.c⟩
    ·exact ⟨rfl,xO s.c⟩
   ·exact ⟨rfl,rfl⟩
theorem tick_cr {d:Nat} (h:s.ok c k m d) (hr:rightC c=true) (hk:k≤900) {now:Nat} (ht:s.c.toE now=0):
  (s.tickS now).p.s + aR (s.tickL now) * 1000000≤s.p.s + (s.tickS now).e.pace * (now - s.p.t)∧(s.tickS now).p.s≤(s.tickS now).e.quant * 1000000∧(s.tickS now).p.t=(s.tickS now).c.t∧(s.tickS now).c.t=now:=by
 obtain ⟨o1,s1,c1,r1,q1,t1,n1⟩:=SN.paced_ok h hr hk ht;obtain ⟨y1,y2,y3,y4⟩:=CS.to_yes ht;have hpt:=h.pt;have hp4:=(SN.pre_ok h hr hk now (by omega)).2.2.2.1;have hps:(s.paced now).p.s≤s.p.s + (s.paced now).e.pace * (now - s.p.t):=by
  have e:(s.paced now).p=(s.pre now).p.tickS now (s.pre now).e.pace (s.pre now).e.quant:=rfl;have e2:(s.paced now).e.pace=(s.pre now).e.pace:=rfl;rw [e2,e,hp4];unfold PS.tickS;rw [if_neg (by omega)];show min (Pl.addS s.p.s (Pl.mulS (s.pre now).e.pace (now - s.p.t))) (Pl.mulS (s.pre now).e.quant 1000000)≤_
  unfold Pl.addS Pl.mulS;generalize (s.pre now).e.pace * (now - s.p.t)=z;omega
 have T:=(SN.tick_yes h hr hk ht).1;have e1:s.tickS now=(s.paced now).run.1.rest:=by unfold SN.tickS;rw [if_pos ht]
 have e2:s.tickL now=(s.paced now).run.2:=by unfold SN.tickL;rw [if_pos ht]
 have hpq:=(SN.tick_yes h hr hk ht).2.ps;rw [T.pq] at hpq;refine ⟨?_,hpq,by rw [T.pt,T.ck],by rw [T.ck]⟩;clear T hpq;rw [e1,e2];clear e1 e2;generalize s.paced now=x at *;obtain ⟨G,O⟩:=SN.gos_gone hr x.w o1;have er:x.run=SN.gos x.w x:=rfl;rw [← er] at G O;generalize x.run=r at *;obtain ⟨a1,a2,a3,a4,a5,a6⟩:=SN.rest_eq r.1;rw [a5,a4,G.e];have:=G.cr;omega
end SN
structure Pd (c:Setup) (F k m:Nat) (s:SN) (Q n rest W:Nat):Prop where
 ok:s.ok c (2 * k) (65 * k) m
 pt:s.p.t=s.c.t
 cr:1000000 * W + s.p.s≤1000000 * Q + (1000000 * n + rest)
 qb:Q≤4194240
 nb:n≤1180591620717411 * k
 rb:rest≤1073741824000000 * k
 wb:W≤4259775 * k
 z:k≤F→W=0∧n=0∧rest=0
namespace Pd
theorem start (hr:rightC c=true) (hc:∀i,c i≤↑ω):Pd c F 0 0 (SN.new c) 0 0 0 0:=
 ⟨SN.new_ok hr hc,rfl,Nat.le_refl _,Nat.zero_le _,Nat.zero_le _,Nat.zero_le _,Nat.zero_le _,fun _=>⟨rfl,rfl,rfl⟩⟩
structure Mid (c:Setup) (k m:Nat) (s s2:SN):Prop where
 ok:s2.ok c (2 * k + 1) (65 * k) m
 pt:s2.p.t=s2.c.t
 ps:s2.p.s=s.p.s
theorem mid (h:Pd c F k m s Q n rest W) (hr:rightC c=true) (hk:k < 60) (w:Nat) (ok:Bool) (f:Pk→Bool):
  ∃m',Mid c k m' s ((s.writeS w).ackS (s.writeS w).c.t ok f):=by
 have h1:=SN.write_ok h.ok w;obtain ⟨a,a1,_⟩:=SN.ack_ok h1 hr (by omega) (by omega) (s.writeS w).c.t ok f;obtain ⟨b1,b2⟩:=SN.ack_pt (s.writeS w) ok f;obtain ⟨d1,d2⟩:=SN.write_pt s w;exact ⟨_,a1,by rw [b1,b2,d1,d2];exact h.pt,by rw [b1,d1]⟩
structure After (c:Setup) (k m:Nat) (s s2 s3:SN) (L:List Pk) (A:Nat):Prop where
 ok:s3.ok c (2 * k + 2) (65 * k + 65) m
 pt:s3.p.t=s3.c.t
 cr:s3.p.s + aR L * 1000000≤s.p.s + s3.e.pace * A
 ps:s3.p.s≤s3.e.quant * 1000000
 len:L.length≤65
 sz:∀p∈L,p.size≤65535
 tot:aR L≤4259775
 q:s3.e.quant≤4194240
 pm:s3.e.pace≤1099511627776
theorem after (h:Mid c k m s s2) (hr:rightC c=true) (hk:k < 60) (ht:s2.c.toE (s2.c.t + A)=0):
  After c k m s s2 (s2.tickS (s2.c.t + A)) (s2.tickL (s2.c.t + A)) A:=by
 obtain ⟨T,O⟩:=SN.tick_yes h.ok hr (by omega) ht;obtain ⟨c1,c2,c3,c4⟩:=SN.tick_cr h.ok hr (by omega) ht;have hm:=cB hr;have hqm:=O.fr.qm;have hpm:=O.fr.pm;have hall:=T.all;have hs:∀p∈s2.tickL (s2.c.t + A),p.size≤65535:=fun p hp=>by have:=(T.size p hp).2.1;omega
 refine ⟨O,c3,?_,c2,T.len,hs,by omega,by omega,hpm⟩;rw [h.ps,h.pt,Nat.add_sub_cancel_left] at c1;exact c1
theorem ahead (h:Pd c F k m s Q n rest W) (g:After c k m' s s2 s3 L A) (hk:k < F):Pd c F (k + 1) m' s3 s3.e.quant n rest W:=by
 obtain ⟨z1,z2,z3⟩:=h.z (Nat.le_of_lt hk);subst z1 z2 z3;have hps:=g.ps;exact ⟨g.ok.mono (by omega) (by omega),g.pt,by omega,g.q,Nat.zero_le _,Nat.zero_le _,Nat.zero_le _,fun _=>⟨rfl,rfl,rfl⟩⟩
theorem on (h:Pd c F k m s Q n rest W) (g:After c k m' s s2 s3 L A) (hk:F≤k) (hA:A≤1073741824):
  Pd c F (k + 1) m' s3 Q (n + s3.e.pace / 1000000 * A) (rest + s3.e.pace % 1000000 * A) (W + aR L)∧W + aR L≤Q + (n + s3.e.pace / 1000000 * A) + (rest + s3.e.pace % 1000000 * A + 999999) / 1000000∧s3.e.pace / 1000000 * A≤1180591620717411∧s3.e.pace % 1000000 * A≤1073741824000000:=by
 have hcr:=h.cr;have hgc:=g.cr;have hps:=g.ps;have hpm:=g.pm;have hdm:=Nat.div_add_mod s3.e.pace 1000000;have hml:=Nat.mod_lt s3.e.pace (show 0 < 1000000 by decide);have hdl:s3.e.pace / 1000000≤1099511:=by omega
 have h1:s3.e.pace / 1000000 * A≤1099511 * 1073741824:=Nat.mul_le_mul hdl hA;have h2:s3.e.pace % 1000000 * A≤1000000 * 1073741824:=Nat.mul_le_mul (Nat.le_of_lt hml) hA;have h3:s3.e.pace * A=1000000 * (s3.e.pace / 1000000 * A) + s3.e.pace % 1000000 * A:=by
  rw [← Nat.mul_assoc,← Nat.add_mul,hdm]
 have hn:=h.nb;have hrr:=h.rb;have hw:=h.wb;have ht:=g.tot;rw [h3] at hgc;clear h3 hdm hml hdl;generalize s3.e.pace / 1000000 * A=x at *;generalize s3.e.pace % 1000000 * A=y at *;generalize aR L=t at *;have hc2:1000000 * (W + t) + s3.p.s≤1000000 * Q + (1000000 * (n + x) + (rest + y)):=by omega
 refine ⟨⟨g.ok.mono (by omega) (by omega),g.pt,hc2,h.qb,by omega,by omega,by omega,fun q=>absurd q (by omega)⟩,?_,by omega,by omega⟩;have:=Nat.div_add_mod (rest + y + 999999) 1000000;have:=Nat.mod_lt (rest + y + 999999) (show 0 < 1000000 by decide);omega
end Pd
end Go.Proofs.YtjhiooggnpbecaaGreatDoor
