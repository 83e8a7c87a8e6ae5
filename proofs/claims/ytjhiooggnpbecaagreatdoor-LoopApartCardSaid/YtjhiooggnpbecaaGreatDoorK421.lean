/- Lemmas. -/
import Derived.Test.YtjhiooggnpbecaaGreatDoorK419
import Derived.Test.YtjhiooggnpbecaaGreatDoorK420
set_option linter.unusedVariables false
set_option maxRecDepth 100000
namespace Go.Proofs.YtjhiooggnpbecaaGreatDoor
open Go.RowKit Cf
variable {P:EP} {l:List Pk} {d k m now:Nat} {B:Own} {q:Pk} {s:SN} {c:Setup}
theorem EV (h:rightC c=true):OT (c 0) (ES.new c):=by
 have hf:=oX h;have hm:=cJ h;have hl:=oW h;have hcw:(ES.new c).cwnd=dE c:=rfl;have hst:(ES.new c).st=0:=rfl;have hc:(ES.new c).c=c:=rfl;generalize ES.new c=t at *;have hp:t.pace=min (max (jZ (stG t.st) (t.bs.limit t.rate)) (cS t.c)) 1099511627776:=rfl;rw [hc,hl] at hp;have hq:t.quant=min (max (t.pace / 1000) (Pl.mulS 2 (t.c 0))) (Pl.mulS 64 (t.c 0)):=rfl;rw [hc] at hq;unfold Pl.mulS at hq;exact ⟨by omega,by omega,by omega,by omega,by omega,by omega,by rw [hst];decide⟩
structure SN.ok (c:Setup) (k m d:Nat) (s:SN):Prop where
 ec:s.e.c=c
 e:s.e.ok k
 fr:OT (c 0) s.e
 cl:s.c.ok
 t:s.t.ok
 a:s.a.ok
 pr:s.p.r≤1099511627776
 pq:s.p.q≤4194240
 pt:s.p.t≤s.c.t
 ps:s.p.s≤s.p.q * 1000000
 re:s.L.reorder=c 2
 pk:∀p∈s.L.out,1≤p.size∧p.size≤c 0∧p.sent≤s.c.t∧p.n < s.L.next
 st:∀p∈s.L.out,p.st.ok
 few:s.L.next≤m
 top:s.L.top≤s.L.next
 sum:s.w + bB s.L.out + d=s.c.n
theorem SN.ok.pok (h:s.ok c k m d):s.p.ok:=by
 have h1:=h.pr;have h2:=h.pq;have h3:=h.pt;have h4:=h.ps;have h5:=h.cl.1;unfold PS.ok;omega
theorem SN.ok.small (h:s.ok c k m d):s.w + bB s.L.out≤72057594037927936:=by
 have:=h.sum;have:=h.cl.2;omega
theorem SN.ok.fl {c:Setup} {k m d:Nat} {s:SN} (h:s.ok c k m d):s.L.fl=bB s.L.out:=by
 have:=h.small;unfold PL.fl;rw [gK _ _ (by omega)];omega
theorem SN.new_ok {c:Setup} (h:rightC c=true) (hc:∀i,c i≤↑ω):(SN.new c).ok c 0 0 0 where
 ec:=rfl
 e:=ES.new_ok hc
 fr:=EV h
 cl:=⟨Nat.zero_le _,Nat.zero_le _⟩
 t:=TS.zero_ok
 a:=⟨Nat.zero_le _,Nat.zero_le _,Nat.zero_le _,Nat.zero_le _⟩
 pr:=Nat.zero_le _
 pq:=Nat.zero_le _
 pt:=Nat.zero_le _
 ps:=Nat.zero_le _
 re:=rfl
 pk:=fun p hp=>by cases hp
 st:=fun p hp=>by cases hp
 few:=Nat.le_refl _
 top:=Nat.le_refl _
 sum:=rfl
theorem SN.write_ok (h:s.ok c k m d) (n:Nat):(s.writeS n).ok c k m d:=by
 have hc:=CS.count_ok h.cl n;have ht:(s.c.countS n).t=s.c.t:=by unfold CS.countS;split;rfl;split <;> rfl
 have hn:(if s.c.countE n=0 then Pl.addS s.w n else s.w) + bB s.L.out + d=(s.c.countS n).n:=by
  have h1:=h.sum;have h2:=h.cl.2;unfold CS.countE CS.countS;by_cases q:s.c.p=true
  ·rw [if_pos q,if_pos q,if_neg (by decide)];exact h1
  ·rw [if_neg q,if_neg q]
   by_cases q2:72057594037927936 < s.c.n + n
   ·rw [if_pos q2,if_pos q2,if_neg (by decide)];exact h1
   ·rw [if_neg q2,if_neg q2,if_pos rfl]
    unfold Pl.addS;show _=s.c.n + n
    omega
 exact {h with cl:=hc,pt:=by show s.p.t≤(s.c.countS n).t;rw [ht];exact h.pt,pk:=fun p hp=>by show _∧_∧p.sent≤(s.c.countS n).t∧_;rw [ht];exact h.pk p hp,sum:=hn}
theorem SN.loss_w (h:s.ok c k m d):s.loss.w=s.w + bB s.lostL∧s.loss.w + bB s.loss.L.out=s.w + bB s.L.out∧aT 0 s.lostL=bB s.lostL:=by
 have h1:=iN s.isLost s.L.out;have h2:=h.small;have e:aT 0 s.lostL=bB s.lostL:=by rw [gK _ _ (by omega)];unfold SN.lostL;omega
 have e2:s.loss.w=Pl.addS s.w (aT 0 s.lostL):=rfl;have e3:s.loss.L.out=s.keptL:=rfl;rw [e2,e3,e];unfold Pl.addS SN.lostL SN.keptL;omega
theorem SN.loss_ok (h:s.ok c k m d):s.loss.ok c k m d:=by
 obtain ⟨_,hs,_⟩:=SN.loss_w h;have hsub:∀p,p∈s.keptL→p∈s.L.out:=fun p hp=>(List.mem_filter.1 hp).1;have ht:s.loss.t.ok:=by
  show (if s.lostL≠[]∧s.keptL=[] then s.t.dbl else s.t).ok
  split
  ·exact TS.dbl_ok h.t
  ·exact h.t
 exact {h with t:=ht,pk:=fun p hp=>h.pk p (hsub p hp),st:=fun p hp=>h.st p (hsub p hp),sum:=by have:=h.sum;show s.loss.w + bB s.loss.L.out + d=s.c.n;omega}
theorem SN.fl_le (s:SN):s.L.fl≤18446744073709551615:=by unfold PL.fl;exact dJ (Nat.zero_le _)
theorem SN.tell_ok (h:s.ok c k m d) (hr:rightC c=true) (hk:k≤900) {lost:Nat} (hn:now≤↑ω) (hl:lost≤↑ω) (b:Bool):(s.tell now lost b).ok c (k + 1) m d:=by
 unfold SN.tell;have hx:EvS.ok ⟨now,0,0,0,0,false,false,s.a.n,0,lost,s.L.fl⟩:=⟨hn,Nat.zero_le _,Nat.zero_le _,Nat.zero_le _,Nat.zero_le _,h.a.n,Nat.zero_le _,hl,s.fl_le⟩;split
 ·exact {h with ec:=(ES.on_c _ _).trans h.ec,e:=ES.on_ok h.e hx hk,fr:=by have:=xB h.e (by rw [h.ec];exact hr) hx hk;rw [h.ec] at this;exact this}
 ·exact {h with e:={h.e with fn:=Nat.le_succ_of_le h.e.fn,nn:=Nat.le_succ_of_le h.e.nn}}
theorem SN.size_pos (h:s.ok c k m d) (hr:rightC c=true) (hf:s.fits=true):1≤s.size∧s.size≤c 0∧s.size≤s.w∧s.L.fl + s.size≤s.e.cwnd:=by
 have hm:=cJ hr;have h1:=h.small;have h2:=h.fl;unfold SN.fits at hf;simp only [Bool.and_eq_true,decide_eq_true_eq] at hf;have hs:s.size=min (c 0) s.w:=by unfold SN.size;rw [h.ec]
 unfold Pl.addS at hf;omega
theorem SN.go_ok (h:s.ok c k m d) (hr:rightC c=true) (hg:s.goes=true):s.go1.ok c k (m + 1) d∧s.go1.w + bB s.go1.L.out=s.w + bB s.L.out∧s.go1.L.fl=s.L.fl + s.size∧s.go1.p.s + s.size * 1000000=s.p.s:=by
 unfold SN.goes at hg;simp only [Bool.and_eq_true] at hg;obtain ⟨h1,h2,h3,h4⟩:=SN.size_pos h hr hg.1;have hm:=cJ hr;have hw:s.go1.w=s.w - s.size:=rfl;have ho:s.go1.L.out=s.L.out ++ [s.pk]:=rfl;have hz:bB [s.pk]=s.size:=by rw [eA];rfl
 have hsum:s.go1.w + bB s.go1.L.out=s.w + bB s.L.out:=by rw [hw,ho,iM,hz];omega
 have hfl:s.go1.L.fl=s.L.fl + s.size:=by
  rw [h.fl];unfold PL.fl;have:=h.small;rw [ho,gK _ _ (by omega),iM,hz];omega
 have hmul:Pl.mulS s.size 1000000=s.size * 1000000:=by unfold Pl.mulS;omega
 have htk:s.size * 1000000≤s.p.s:=by
  have:=hg.2;unfold PS.takeB at this;rw [hmul] at this;exact of_decide_eq_true this
 have hp:s.go1.p=⟨s.p.r,s.p.q,s.p.t,s.p.s - s.size * 1000000⟩:=by
  show s.p.takeS s.size=_
  unfold PS.takeS;rw [hmul,if_pos htk]
 have ha:s.stamp.ok:=RaS.stamp_ok h.a (Nat.le_trans h.cl.1 (by omega)) _;have hpk:∀p∈s.go1.L.out,(1≤p.size∧p.size≤c 0∧p.sent≤s.c.t∧p.n < s.L.next + 1):=by
  intro p hp;rw [ho] at hp;rcases List.mem_append.1 hp with q | q
  ·have:=h.pk p q;omega
  ·obtain rfl:p=s.pk:=by simpa using q
   exact ⟨h1,h2,Nat.le_refl _,Nat.lt_succ_self _⟩
 refine ⟨?_,hsum,hfl,by rw [hp];show s.p.s - _ + _=_;omega⟩;have hct:s.c.t≤18446744073709551615:=Nat.le_trans h.cl.1 (by omega);have hst:∀p∈s.go1.L.out,p.st.ok:=by
  intro p hp;rw [ho] at hp;rcases List.mem_append.1 hp with q | q
  ·exact h.st p q
  ·obtain rfl:p=s.pk:=by simpa using q
   exact ⟨hct,ha.first,ha.n,ha.last⟩
 have hs2:s.go1.w + bB s.go1.L.out + d=s.c.n:=by have:=h.sum;omega
 exact {ec:=h.ec,e:=h.e,fr:=h.fr,cl:=h.cl,t:=h.t,a:=ha,pr:=by rw [hp];exact h.pr,pq:=by rw [hp];exact h.pq,pt:=by rw [hp];exact h.pt,ps:=by rw [hp];exact Nat.le_trans (Nat.sub_le _ _) h.ps,re:=h.re,pk:=hpk,st:=hst,few:=Nat.succ_le_succ h.few,top:=Nat.le_succ_of_le h.top,sum:=hs2}
structure SN.Gone (c:Setup) (s:SN) (r:SN × List Pk):Prop where
 ck:r.1.c=s.c
 e:r.1.e=s.e
 t:r.1.t=s.t
 pr:r.1.p.r=s.p.r
 pq:r.1.p.q=s.p.q
 pt:r.1.p.t=s.p.t
 re:r.1.L.reorder=s.L.reorder
 top:r.1.L.top=s.L.top
 topped:r.1.L.topped=s.L.topped
 out:r.1.L.out=s.L.out ++ r.2
 next:r.1.L.next=s.L.next + r.2.length
 w:r.1.w + bB r.2=s.w
 fl:r.1.L.fl=s.L.fl + bB r.2
 cr:r.1.p.s + bB r.2 * 1000000=s.p.s
 size:∀p∈r.2,1≤p.size∧p.size≤c 0∧p.sent=s.c.t
 num:∀i,i < r.2.length→(r.2.getD i Itm.z).n=s.L.next + i
 len:r.2.length * c 0≤bB r.2 + c 0
 le:r.2≠[]→r.1.L.fl≤s.e.cwnd
theorem SN.Gone.none (c:Setup) (s:SN):SN.Gone c s (s,[]):=
 ⟨rfl,rfl,rfl,rfl,rfl,rfl,rfl,rfl,rfl,by simp,rfl,rfl,rfl,by simp [iL],by simp,by simp,by simp,fun h=>absurd rfl h⟩
theorem SN.goes_w (h:s.goes=true):0 < s.w:=by
 unfold SN.goes SN.fits at h;simp only [Bool.and_eq_true,decide_eq_true_eq] at h;exact h.1.1
theorem SN.gos_zero (h:s.w=0) (fuel:Nat):SN.gos fuel s=(s,[]):=by
 cases fuel with
 | zero=>rfl
 | succ n=>
   unfold SN.gos;rw [if_neg];intro q;have:=SN.goes_w q;omega
theorem zT (p:PS) (x:Nat):(p.takeS x).r=p.r∧(p.takeS x).q=p.q∧(p.takeS x).t=p.t:=by unfold PS.takeS;split <;> exact ⟨rfl,rfl,rfl⟩
theorem SN.gos_gone {c:Setup} {k d:Nat} (hr:rightC c=true):∀(fuel:Nat) {m:Nat} {s:SN},s.ok c k m d→
  SN.Gone c s (SN.gos fuel s)∧(SN.gos fuel s).1.ok c k (m + (SN.gos fuel s).2.length) d
 | 0,m,s,h=>⟨SN.Gone.none c s,h⟩
 | fuel + 1,m,s,h=>by
   by_cases hg:s.goes=true
   ·have e:SN.gos (fuel + 1) s=((SN.gos fuel s.go1).1,s.pk :: (SN.gos fuel s.go1).2):=by rw [SN.gos,if_pos hg]
    rw [e];obtain ⟨o1,g1,g2,g3⟩:=SN.go_ok h hr hg;obtain ⟨h1,h2,h3,h4⟩:=SN.size_pos h hr (by unfold SN.goes at hg;simp only [Bool.and_eq_true] at hg;exact hg.1);obtain ⟨G,O⟩:=SN.gos_gone hr fuel o1;have hz:s.go1.w=0→SN.gos fuel s.go1=(s.go1,[]):=fun q=>SN.gos_zero q fuel;generalize SN.gos fuel s.go1=r at *;obtain ⟨t1,t2,t3⟩:=zT s.p s.size;have hp:s.go1.p=s.p.takeS s.size:=rfl;have hw:s.go1.w=s.w - s.size:=rfl;have hpk:s.pk.size=s.size:=rfl;have hs:s.size=min (c 0) s.w:=by unfold SN.size;rw [h.ec]
    refine ⟨⟨G.ck,G.e,G.t,by rw [G.pr,hp,t1],by rw [G.pq,hp,t2],by rw [G.pt,hp,t3],G.re,G.top,G.topped,?_,?_,?_,?_,?_,?_,?_,?_,?_⟩,?_⟩
    ·rw [G.out];show (s.L.out ++ [s.pk]) ++ r.2=_;simp
    ·rw [G.next,List.length_cons];show s.L.next + 1 + _=_;omega
    ·have:=G.w;show r.1.w + bB (s.pk :: r.2)=s.w;rw [eA,hpk];omega
    ·show r.1.L.fl=s.L.fl + bB (s.pk :: r.2);rw [G.fl,g2,eA,hpk];omega
    ·have g4:=G.cr
     show r.1.p.s + bB (s.pk :: r.2) * 1000000=s.p.s
     rw [eA,hpk,← g3,← g4];generalize bB r.2=T;generalize r.1.p.s=A;generalize s.size=B;omega
    ·intro p hp
     rcases List.mem_cons.1 hp with rfl | q
     ·exact ⟨h1,h2,rfl⟩
     ·exact G.size p q
    ·intro i hi
     cases i with
     | zero=>rfl
     | succ i=>
       have:=G.num i (by simpa using hi);have e2:(s.pk :: r.2).getD (i + 1) Itm.z=r.2.getD i Itm.z:=rfl;rw [e2,this];show s.L.next + 1 + i=_
       omega
    ·rw [List.length_cons,eA,hpk,Nat.add_mul,Nat.one_mul]
     have:=G.len;by_cases q:s.size=c 0
     ·omega
     ·have h0:s.go1.w=0:=by omega
      rw [hz h0];simp [iL]
    ·intro _
     by_cases q:r.2=[]
     ·rw [G.fl,g2,q,iL];omega
     ·exact G.le q
    ·have e3:m + (s.pk :: r.2).length=m + 1 + r.2.length:=by rw [List.length_cons];omega
     rw [e3];exact O
   ·have e:SN.gos (fuel + 1) s=(s,[]):=by rw [SN.gos,if_neg hg]
    rw [e];exact ⟨SN.Gone.none c s,h⟩
theorem SN.to_ok {c:Setup} {k m d:Nat} {s:SN} (h:s.ok c k m d) (now:Nat):(s.tim now).ok c k m d:=by
 have hc:=CS.to_ok h.cl now;have ht:s.c.t≤(s.c.toS now).t∧(s.c.toS now).n=s.c.n:=by
  unfold CS.toS;split
  ·exact ⟨Nat.le_refl _,rfl⟩
  ·split
   ·exact ⟨Nat.le_refl _,rfl⟩
   ·split
    ·exact ⟨Nat.le_refl _,rfl⟩
    ·exact ⟨by dsimp;omega,rfl⟩
 exact {h with cl:=hc,pt:=Nat.le_trans h.pt ht.1,pk:=fun p hp=>⟨(h.pk p hp).1,(h.pk p hp).2.1,Nat.le_trans (h.pk p hp).2.2.1 ht.1,(h.pk p hp).2.2.2⟩,sum:=by have:=h.sum;show s.w + bB s.L.out + d=(s.c.toS now).n;omega}
theorem CS.to_yes {s:CS} (h:s.toE now=0):s.toS now=⟨now,s.n,false⟩∧s.t≤now∧now≤4398046511104∧s.p=false:=by
 unfold CS.toE at h;unfold CS.toS;split at h
 ·exact absurd h (by decide)
 ·rename_i hp
  rw [if_neg hp];split at h
  ·exact absurd h (by decide)
  ·rename_i h1
   rw [if_neg h1];split at h
   ·exact absurd h (by decide)
   ·rename_i h2
    rw [if_neg h2];have:s.p=false:=by simpa using hp
    exact ⟨by rw [this],by omega,by omega,this⟩
theorem SN.pre_ok (h:s.ok c k m d) (hr:rightC c=true) (hk:k≤900) (now:Nat) (hn:now≤↑ω):(s.pre now).ok c (k + 1) m d∧(s.pre now).w + bB (s.pre now).L.out=s.w + bB s.L.out∧(s.pre now).c=s.c.toS now∧(s.pre now).p=s.p∧(s.pre now).L.next=s.L.next:=by
 have h1:=SN.to_ok h now;obtain ⟨_,h3,h4⟩:=SN.loss_w h1;have hl:aT 0 (s.tim now).lostL≤18446744073709551615:=dJ (Nat.zero_le _);have h5:=SN.tell_ok (SN.loss_ok h1) hr hk hn hl (!(s.tim now).lostL.isEmpty);refine ⟨h5,?_,?_,?_,?_⟩;all_goals
  unfold SN.pre SN.tell;split
  all_goals first | exact h3 | rfl
theorem SN.paced_ok (h:s.ok c k m d) (hr:rightC c=true) (hk:k≤900) (ht:s.c.toE now=0):(s.paced now).ok c (k + 1) m d∧(s.paced now).w + bB (s.paced now).L.out=s.w + bB s.L.out∧(s.paced now).c=⟨now,s.c.n,false⟩∧
  (s.paced now).p.r=(s.paced now).e.pace∧(s.paced now).p.q=(s.paced now).e.quant∧(s.paced now).p.t=now∧(s.paced now).L.next=s.L.next:=by
 obtain ⟨e1,e2,e3,e4⟩:=CS.to_yes ht;obtain ⟨h1,h2,h3,h4,h5⟩:=SN.pre_ok h hr hk now (by omega);rw [e1] at h3;have hp:(s.paced now).p=⟨(s.pre now).e.pace,(s.pre now).e.quant,now,min (Pl.addS (s.pre now).p.s (Pl.mulS (s.pre now).e.pace (now - (s.pre now).p.t))) (Pl.mulS (s.pre now).e.quant 1000000)⟩:=by
  show (s.pre now).p.tickS now (s.pre now).e.pace (s.pre now).e.quant=_
  unfold PS.tickS;rw [if_neg];have:=h.pt;rw [h4];omega
 have hm:=cJ hr;have hq:=h1.fr.qm;refine ⟨{h1 with pr:=by rw [hp];exact h1.fr.pm,pq:=by rw [hp];show (s.pre now).e.quant≤_;omega,pt:=by rw [hp];show now≤(s.pre now).c.t;rw [h3];exact Nat.le_refl _,ps:=by rw [hp];show min _ _≤(s.pre now).e.quant * 1000000;unfold Pl.mulS;omega},h2,h3,by rw [hp];rfl,by rw [hp];rfl,by rw [hp],h5⟩

theorem SN.ok.mono {k' m':Nat} (h:s.ok c k m d) (hk:k≤k') (hm:m≤m'):s.ok c k' m' d:=
 {h with e:={h.e with fn:=Nat.le_trans h.e.fn hk,nn:=Nat.le_trans h.e.nn hk},few:=Nat.le_trans h.few hm}
theorem SN.rest_ok (h:s.ok c k m d):s.rest.ok c k m d:=by
 unfold SN.rest;split
 ·exact {h with a:=RaS.limit_ok h.a _}
 ·exact h
theorem SN.rest_eq (s:SN):s.rest.c=s.c∧s.rest.L=s.L∧s.rest.t=s.t∧s.rest.e=s.e∧s.rest.p=s.p∧s.rest.w=s.w:=by
 unfold SN.rest;split <;> exact ⟨rfl,rfl,rfl,rfl,rfl,rfl⟩
theorem SN.tick_no (h:s.c.toE now≠0):s.tickS now=s.tim now∧s.tickL now=[]:=by
 unfold SN.tickS SN.tickL;rw [if_neg h,if_neg h];exact ⟨rfl,rfl⟩
structure SN.Ticked (c:Setup) (s:SN) (now:Nat) (r:SN) (l:List Pk):Prop where
 ck:r.c=⟨now,s.c.n,false⟩
 sum:r.w + bB r.L.out=s.w + bB s.L.out
 next:r.L.next=s.L.next + l.length
 pr:r.p.r=r.e.pace
 pq:r.p.q=r.e.quant
 pt:r.p.t=now
 all:bB l≤r.e.quant
 size:∀p∈l,1≤p.size∧p.size≤c 0∧p.sent=now
 num:∀i,i < l.length→(l.getD i Itm.z).n=s.L.next + i
 len:l.length≤65
 le:l≠[]→r.L.fl≤r.e.cwnd
 mem:∀p∈l,p∈r.L.out
theorem SN.tick_yes (h:s.ok c k m d) (hr:rightC c=true) (hk:k≤900) (ht:s.c.toE now=0):
  SN.Ticked c s now (s.tickS now) (s.tickL now)∧(s.tickS now).ok c (k + 1) (m + 65) d:=by
 obtain ⟨o1,s1,c1,r1,q1,t1,n1⟩:=SN.paced_ok h hr hk ht;have e1:s.tickS now=(s.paced now).run.1.rest:=by unfold SN.tickS;rw [if_pos ht]
 have e2:s.tickL now=(s.paced now).run.2:=by unfold SN.tickL;rw [if_pos ht]
 rw [e1,e2];clear e1 e2;generalize s.paced now=x at *;obtain ⟨G,O⟩:=SN.gos_gone hr x.w o1;have er:x.run=SN.gos x.w x:=rfl;rw [← er] at G O;generalize x.run=r at *;obtain ⟨a1,a2,a3,a4,a5,a6⟩:=SN.rest_eq r.1;have O2:=SN.rest_ok O;have hm:=cJ hr;have hq:bB r.2≤x.e.quant:=by
  have h1:=G.cr;have h2:=o1.ps;rw [q1] at h2;generalize bB r.2=T at *;generalize r.1.p.s=A at *;generalize x.p.s=B at *;generalize x.e.quant=Q at *;omega
 have hqm:=o1.fr.qm;have hlen:r.2.length≤65:=by
  have h1:=G.len;have h2:r.2.length * c 0≤65 * c 0:=by omega
  exact Nat.le_of_mul_le_mul_right h2 hm.1
 refine ⟨⟨by rw [a1,G.ck,c1],?_,by rw [a2,G.next,n1],by rw [a5,a4,G.pr,G.e,r1],by rw [a5,a4,G.pq,G.e,q1],by rw [a5,G.pt,t1],by rw [a4,G.e];exact hq,fun p hp=>?_,fun i hi=>?_,hlen,fun hne=>by rw [a2,a4,G.e];exact G.le hne,fun p hp=>by rw [a2,G.out];exact List.mem_append_right _ hp⟩,O2.mono (Nat.le_refl _) (by omega)⟩
 ·rw [a6,a2,G.out,iM]
  have:=G.w;omega
 ·have:=G.size p hp
  rw [c1] at this;exact this
 ·rw [← n1];exact G.num i hi
theorem zU (l:List Pk):∀(t b:Nat),t≤b→(∀p∈l,p.n≤b)→l.foldl (fun t p=>max t p.n) t≤b:=by
 induction l with
 | nil=>intro t b h _;exact h
 | cons p l ih=>intro t b h hl;exact ih _ b (by have:=hl p List.mem_cons_self;show max t p.n≤b;omega) (fun q hq=>hl q (List.mem_cons_of_mem _ hq))
theorem SN.took_ok (h:s.ok c k m d) (f:Pk→Bool):(s.took f).ok c k m (d + bB (s.acked f))∧(s.took f).w + bB (s.took f).L.out + bB (s.acked f)=s.w + bB s.L.out:=by
 have h1:=iN f s.L.out;have e1:(s.took f).L.out=s.L.out.filter (fun p=>!f p):=rfl;have e2:(s.took f).w=s.w:=rfl;have hs:(s.took f).w + bB (s.took f).L.out + bB (s.acked f)=s.w + bB s.L.out:=by
  rw [e1,e2];unfold SN.acked;omega
 refine ⟨{h with pk:=fun p hp=>h.pk p (List.mem_filter.1 hp).1,st:=fun p hp=>h.st p (List.mem_filter.1 hp).1,top:=?_,sum:=?_},hs⟩
 ·exact zU _ _ _ h.top (fun p hp=>Nat.le_of_lt (h.pk p (List.mem_filter.1 hp).1).2.2.2)
 ·have:=h.sum
  show (s.took f).w + bB (s.took f).L.out + (d + bB (s.acked f))=s.c.n
  omega
theorem SN.u64 {c:Setup} {k m d:Nat} {s:SN} (h:s.ok c k m d) (hr:rightC c=true) (hm:m≤100000) {p:Pk} (hp:p∈s.L.out):p.u64:=by
 have h1:=h.pk p hp;have h2:=h.few;have h3:=cJ hr;exact ⟨by omega,by omega,h.st p hp⟩
theorem SN.sampled_ok (h:s.ok c k m d) (hn:now≤↑ω) (hq:∀p∈q :: l,p.u64):(s.sampled now q l).ok c k m d:=by
 have ha:=RaS.ack_ok h.a hn hq;have hx:(s.a.ackT now q l).rtt≤18446744073709551615:=Nat.le_trans (Nat.sub_le _ _) hn;exact {h with a:=ha,t:=TS.put_ok h.t hx}
theorem SN.told_ok (h:s.ok c k m d) (hr:rightC c=true) (hk:k≤900) {ac lo:Nat} {x:Smp} (hn:now≤↑ω) (hx:x.deliv≤↑ω∧x.interval≤↑ω∧x.rate≤↑ω∧x.rtt≤↑ω) (hac:ac≤↑ω) (hlo:lo≤↑ω):
  (s.told now x ac lo).ok c (k + 1) m d:=by
 have hv:EvS.ok ⟨now,x.deliv,x.interval,x.rate,x.rtt,x.lim,true,s.a.n,ac,lo,s.L.fl⟩:=⟨hn,hx.1,hx.2.1,hx.2.2.1,hx.2.2.2,h.a.n,hac,hlo,s.fl_le⟩;exact {h with ec:=(ES.on_c _ _).trans h.ec,e:=ES.on_ok h.e hv hk,fr:=by have:=xB h.e (by rw [h.ec];exact hr) hv hk;rw [h.ec] at this;exact this}
theorem EX {s:RaS} (h:s.ok) (hn:now≤↑ω) (hq:∀p∈q :: l,p.u64):
  (s.ackT now q l).deliv≤↑ω∧(s.ackT now q l).interval≤↑ω∧(s.ackT now q l).rate≤↑ω∧(s.ackT now q l).rtt≤18446744073709551615:=by
 have h1:aT s.n (q :: l)≤18446744073709551615:=dJ h.n;have h2:=jP (l:=l) (hq q List.mem_cons_self).st (fun p hp=>hq p (List.mem_cons_of_mem _ hp));exact ⟨Nat.le_trans (Nat.sub_le _ _) h1,B9 hn h2,IN _ _,Nat.le_trans (Nat.sub_le _ _) hn⟩
theorem SN.ackG_ok (h:s.ok c k m d) (hr:rightC c=true) (hk:k≤900) (hm:m≤100000) (hn:now≤↑ω) (f:Pk→Bool):
  (s.ackG now f).ok c (k + 1) m (d + bB (s.acked f))∧(s.ackG now f).w + bB (s.ackG now f).L.out + bB (s.acked f)=s.w + bB s.L.out∧(s.ackG now f).c=s.c∧(s.ackG now f).L.next=s.L.next:=by
 unfold SN.ackG;split
 ·rename_i e
  rw [e,iL];exact ⟨h.mono (Nat.le_succ _) (Nat.le_refl _),rfl,rfl,rfl⟩
 ·rename_i q l e
  obtain ⟨o1,s1⟩:=SN.took_ok h f;rw [e] at o1 s1 ⊢;have hq:∀p∈q :: l,p.u64:=fun p hp=>SN.u64 h hr hm (List.mem_filter.1 (by rw [← e] at hp;exact hp)).1;have o2:=SN.sampled_ok o1 hn hq;have o3:=SN.loss_ok o2;obtain ⟨_,s3,_⟩:=SN.loss_w o2;have hx:=EX h.a hn hq;have o4:=SN.told_ok o3 hr hk hn hx (ac:=aT 0 (q :: l)) (lo:=aT 0 ((s.took f).sampled now q l).lostL) (dJ (Nat.zero_le _)) (dJ (Nat.zero_le _));refine ⟨o4,?_,rfl,rfl⟩;have e1:((s.took f).sampled now q l).w=(s.took f).w:=rfl;have e2:((s.took f).sampled now q l).L=(s.took f).L:=rfl;rw [e1,e2] at s3;generalize ((s.took f).sampled now q l).loss=y at *;have e3:(y.told now (s.a.ackT now q l) (aT 0 (q :: l)) (aT 0 ((s.took f).sampled now q l).lostL)).w=y.w:=rfl;have e4:(y.told now (s.a.ackT now q l) (aT 0 (q :: l)) (aT 0 ((s.took f).sampled now q l).lostL)).L=y.L:=rfl;rw [e3,e4];omega
theorem SN.ack_ok (h:s.ok c k m d) (hr:rightC c=true) (hk:k≤900) (hm:m≤100000) (now:Nat) (ok:Bool) (f:Pk→Bool):
  ∃a,(s.ackS now ok f).ok c (k + 1) m (d + a)∧(s.ackS now ok f).w + bB (s.ackS now ok f).L.out + a=s.w + bB s.L.out∧(s.ackS now ok f).c.n=s.c.n∧(s.ackS now ok f).L.next=s.L.next:=by
 have same:∃a,s.ok c (k + 1) m (d + a)∧s.w + bB s.L.out + a=s.w + bB s.L.out∧s.c.n=s.c.n∧s.L.next=s.L.next:=⟨0,h.mono (Nat.le_succ _) (Nat.le_refl _),rfl,rfl,rfl⟩;unfold SN.ackS;by_cases h1:s.c.p=true
 ·rw [if_pos h1];exact same
 ·rw [if_neg h1]
  by_cases h2:now < s.c.t
  ·rw [if_pos h2];exact same
  ·rw [if_neg h2]
   cases ok with
   | false=>exact same
   | true=>
     rw [if_pos rfl];have hn:(s.c.toS now).n=s.c.n:=by
      unfold CS.toS;rw [if_neg h1,if_neg h2];split <;> rfl
     by_cases h3:s.c.toE now=0
     ·rw [if_pos h3]
      obtain ⟨_,_,e3,_⟩:=CS.to_yes h3;obtain ⟨a1,a2,a3,a4⟩:=SN.ackG_ok (SN.to_ok h now) hr hk hm (now:=now) (by omega) f;exact ⟨_,a1,a2,by rw [a3];exact hn,a4⟩
     ·rw [if_neg h3]
      exact ⟨0,(SN.to_ok h now).mono (Nat.le_succ _) (Nat.le_refl _),rfl,hn,rfl⟩

theorem KC {s:ES} (now:Nat) (t:Int) (W:World) (h:aG W B P s) (ho:s.ok k):
  Calls Tryz.prog 174 #[↑(π P.b),↑now,.int .i64 t] W (aZ B P (.returned (.tuple #[])) (s.turn now t) W):=by
 unfold ES.turn;by_cases hn:t=s.st
 ·rw [if_pos hn];exact qJ now t W h hn
 ·rw [if_neg hn]
  unfold ES.side;by_cases h6:s.st=6
  ·rw [if_pos h6];exact nT now t W h ho hn h6
  ·rw [if_neg h6]
   by_cases t6:t=6
   ·rw [if_pos t6];exact fQ.2.1 now t W h ho hn h6 t6
   ·rw [if_neg t6]
    by_cases t4:t=4
    ·rw [if_pos t4];exact fQ.2.2 now t W h ho hn h6 t4
    ·rw [if_neg t4]
     by_cases h5:s.st=5∧t=2
     ·rw [if_pos h5];exact qK now t W h ho h5.1 h5.2
     ·rw [if_neg h5];exact fQ.1 now t W h ho hn h6 t6 t4 h5
theorem EZ {s:ES} (x:EvS) (hx:x.ok) (W:World) (h:aG W B P s) (ho:s.ok k):
  Calls Tryz.prog 173 #[↑(π P.b),x.val] W (aZ B P (.returned (.tuple #[])) (s.yield x) W):=by
 unfold ES.yield;by_cases h0:s.st=0
 ·rw [if_pos (Or.inl h0)];exact iQ.1 x hx W h ho h0
 ·by_cases h5:s.st=5
  ·rw [if_pos (Or.inr h5)];exact iQ.2.1 x hx W h ho h5
  ·rw [if_neg (by simp [h0,h5])];exact iQ.2.2 x hx W h ho h0 h5
end Go.Proofs.YtjhiooggnpbecaaGreatDoor
