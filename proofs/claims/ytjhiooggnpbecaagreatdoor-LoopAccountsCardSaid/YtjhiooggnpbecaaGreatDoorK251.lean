/- Lemmas. -/
import Derived.Test.YtjhiooggnpbecaaGreatDoorK250
set_option linter.unusedVariables false
namespace Go.Proofs.YtjhiooggnpbecaaGreatDoor
open Go.RowKit Cf
variable {s:CS} {l:List Pk} {b0:Nat}
def fI (b0:Nat) (k:LKS):Prop:=k.came=k.q.lost + bU k.q.l + k.served∧k.q.room=b0
theorem vB (k:LKS) (c:Nat) (h:fI b0 k) (hm:k.may=true):fI b0 (k.serve1 c):=by
 have e:=LKS.some_cons (LKS.may_some hm);obtain ⟨h1,h2⟩:=h;rw [e,cL] at h1;unfold fI;rw [LKS.serve1_came,LKS.serve1_q,LKS.serve1_served];refine ⟨?_,h2⟩;show k.came=k.q.lost + bU k.q.shiftQ.l + (k.served + k.q.headQ.size)
 omega
theorem CV {k:LKS} (h:fI b0 k) (now x:Nat) (cs:List Nat):fI b0 (k.tick now x cs)∧(k.tick now x cs).came=k.came∧(k.tick now x cs).t=now∧(k.tick now x cs).deliv=k.deliv + bU (k.tickOut now x cs):=by
 have h0:fI b0 (k.toT now):=by unfold fI;rw [LKS.toT_came,LKS.toT_q,LKS.toT_served];exact h
 have h1:fI b0 ((k.toT now).serve cs):=LKS.serve_ind (P:=fI b0) (fun s c hs hm=>vB s c hs hm) _ _ cs rfl h0;have hc:((k.toT now).serve cs).came=k.came∧((k.toT now).serve cs).deliv=k.deliv∧((k.toT now).serve cs).t=now:=LKS.serve_ind (P:=fun s=>s.came=k.came∧s.deliv=k.deliv∧s.t=now) (fun s c hs _=>by rw [LKS.serve1_came,LKS.serve1_deliv,LKS.serve1_t];exact hs) _ _ cs rfl ⟨LKS.toT_came _ _,LKS.toT_deliv _ _,LKS.toT_t _ _⟩;have h2:fI b0 (k.ahead now x cs)∧(k.ahead now x cs).came=k.came∧(k.ahead now x cs).deliv=k.deliv∧(k.ahead now x cs).t=now:=by
  unfold LKS.ahead LKS.wasteL;split
  ·exact ⟨h1,hc⟩
  ·unfold fI
   rw [LKS.wasteK_came,LKS.wasteK_q,LKS.wasteK_served,LKS.wasteK_deliv,LKS.wasteK_t];exact ⟨h1,hc⟩
 obtain ⟨a1,a2,a3,a4⟩:=h2;unfold LKS.tick;refine ⟨?_,?_,?_,?_⟩
 ·unfold fI;rw [LKS.deliver_came,LKS.deliver_q,LKS.deliver_served];exact a1
 ·rw [LKS.deliver_came];exact a2
 ·rw [LKS.deliver_t];exact a4
 ·rw [LKS.deliver_deliv,a3];rfl
theorem oR {b0:Nat}:∀(l:List Pk) (k:LKS) (N:Nat),fI b0 k→k.ok N→(∀p∈l,p.size≤65535)→k.came + bU l≤↑ω→fI b0 (k.sends l)∧(k.sends l).came=k.came + bU l∧(k.sends l).deliv=k.deliv∧(k.sends l).served=k.served∧(k.sends l).t=k.t
 | [],k,N,h,_,_,_=>⟨h,rfl,rfl,rfl,rfl⟩
 | p :: l,k,N,h,ho,hs,hb=>by
   rw [cL] at hb ⊢;have hp:=hs p List.mem_cons_self;have hl:k.q.lost + p.size≤18446744073709551615:=by have:=h.1;omega
   obtain ⟨q1,q2,_⟩:=LKS.put_lost k.q p ho.q hl;have h1:fI b0 (k.send1 p):=by
    unfold fI;rw [LKS.send1_came,LKS.send1_q,LKS.send1_served,q2];have:=h.1;exact ⟨by omega,h.2⟩
   have hc:(k.send1 p).came=k.came + p.size:=LKS.send1_came _ _;obtain ⟨r1,r2,r3,r4,r5⟩:=oR l (k.send1 p) (N + 1) h1 (ho.send (by omega)) (fun x hx=>hs x (List.mem_cons_of_mem _ hx)) (by omega);refine ⟨r1,?_,r3.trans (LKS.send1_deliv _ _),r4.trans (LKS.send1_served _ _),r5.trans (LKS.send1_t _ _)⟩;show ((k.send1 p).sends l).came=_
   rw [r2,hc];omega
theorem xC (l:List Pk):bU l=aR l:=rfl
theorem OJ {m:Nat} (h:∀p∈l,p.size≤m):aR l≤m * l.length:=by
 induction l with
 | nil=>exact Nat.zero_le _
 | cons p l ih=>
   rw [cF,List.length_cons,Nat.mul_succ];have:=h p List.mem_cons_self;have:=ih (fun q hq=>h q (List.mem_cons_of_mem _ hq));omega
namespace LN
structure Bk (c:Setup) (b0 i d:Nat) (x:LN) (H:List Pk):Prop where
 ok:x.ok c i d
 len:H.length=x.s.L.next
 out:∀p∈x.s.L.out,H[p.n]? =some p
 lnk:∀p∈x.k.all,H[p.n]? =some p
 inn:Inn x.s.L.out
 del:d≤x.k.deliv
 came:x.k.came≤65535 * (65 * i)
 lost:fI b0 x.k
 time:x.s.c.p=false→x.s.c.t≤x.k.t
theorem Bk.start {c:Setup} {r d j b:Nat} (h:LN.ok c 0 0 ⟨SN.new c,LKS.start r d j b⟩):Bk c b 0 0 ⟨SN.new c,LKS.start r d j b⟩ []:=
 ⟨h,rfl,(fun p hp=>nomatch hp),(fun p hp=>nomatch hp),List.Pairwise.nil,Nat.zero_le _,Nat.zero_le _,⟨rfl,rfl⟩,fun _=>Nat.zero_le _⟩
structure Told (c:Setup) (b0:Nat) (x y:LN) (t:StV) (ns nk:Nat) (er:Int):Prop where
 kept:nk≤ns
 came:∃g,y.k.came=x.k.came + g∧(g=0↔ns=0)∧g≤y.s.e.quant∧(0 < g→y.s.L.fl≤y.s.e.cwnd)
 n:er=0→y.s.c.n=x.s.c.n + t.w
 past:er≠0→y.s.c.p=true
theorem inn_filter (h:Inn l) (f:Pk→Bool):Inn (l.filter f):=h.filter f
theorem count_yes {n:Nat} (h:s.countE n=0):s.p=false∧s.countS n=⟨s.t,s.n + n,false⟩:=by
 unfold CS.countE at h;unfold CS.countS;cases hp:s.p with
 | true=>rw [hp,if_pos rfl] at h;cases h
 | false=>
   rw [hp,if_neg (by decide)] at h;rw [if_neg (by decide)];by_cases q:72057594037927936 < s.n + n
   ·rw [if_pos q] at h;cases h
   ·rw [if_neg q];exact ⟨rfl,rfl⟩
theorem count_no {n:Nat} (h:s.countE n≠0):(s.countS n).p=true:=by
 unfold CS.countE at h;unfold CS.countS;cases hp:s.p with
 | true=>rw [if_pos rfl];exact hp
 | false=>
   rw [hp,if_neg (by decide)] at h;rw [if_neg (by decide)];by_cases q:72057594037927936 < s.n + n
   ·rw [if_pos q]
   ·rw [if_neg q] at h;exact absurd rfl h
theorem to_no {now:Nat} (h:s.toE now≠0) (ht:s.p=false→s.t≤now):(s.toS now).p=true:=by
 unfold CS.toE at h;unfold CS.toS;cases hp:s.p with
 | true=>rw [if_pos rfl];exact hp
 | false=>
   have:=ht hp;rw [hp,if_neg (by decide),if_neg (by omega)] at h;rw [if_neg (by decide),if_neg (by omega)];by_cases q:4398046511104 < now
   ·rw [if_pos q]
   ·rw [if_neg q] at h;exact absurd rfl h
theorem Bk.told {c:Setup} {i d:Nat} {x:LN} {H:List Pk} (h:Bk c b0 i d x H) (hr:rightC c=true) (hi:i < 80) (t:StV) (hw:x.s.writeE t.w=0):
  ∃a,a≤aR (x.out t)∧(x.s2 t).ok c (2 * i + 1) (65 * i) (d + a)∧(x.s2 t).c.n=x.s.c.n + t.w∧(x.s2 t).L.next=x.s.L.next∧(∃g:Pk→Bool,(x.s2 t).L.out=x.s.L.out.filter g)∧(x.ae t≠0→(x.s2 t).c.p=true)∧(x.ae t=0→(x.s2 t).c.p=false→(x.s2 t).c.t≤x.now t):=by
 obtain ⟨hp,hc⟩:=count_yes hw;have e1:(x.s1 t).c=⟨x.s.c.t,x.s.c.n + t.w,false⟩:=hc;have h1:(x.s1 t).ok c (2 * i) (65 * i) d:=SN.write_ok h.ok.s t.w;have hle:x.s.c.t≤x.now t:=Nat.le_trans (h.time hp) (now_ge h.ok.k t);unfold s2 ae;by_cases ho:x.out t=[]
 ·rw [if_pos ho,if_pos ho]
  exact ⟨0,Nat.zero_le _,h1.mono (Nat.le_succ _) (Nat.le_refl _),by rw [e1],rfl,⟨fun _=>true,(List.filter_eq_self.2 (fun _ _=>rfl)).symm⟩,fun q=>absurd rfl q,fun _ _=>by rw [e1];exact hle⟩
 ·rw [if_neg ho,if_neg ho]
  obtain ⟨a,a1,a2,a3,a4,a5,a6,_⟩:=CU h1 hr (by omega) (by omega) (x.now t) fun p=>bN (eY (x.out t)) p.n;refine ⟨a,Nat.le_trans a1 ?_,a2,by rw [a3,e1],a4,OH _ _ _ _,fun q=>a5 (by rw [e1]) (by rw [e1];exact hle) q,fun q z=>a6 z q⟩;refine vA h.inn (x.out t) (fun q hq p hp' hn=>?_);have q1:=h.out p hp';have q2:=h.lnk q (by rw [all_tick x.k (x.now t) t.x t.cs];exact List.mem_append_left _ hq);rw [hn,q2] at q1;exact (Option.some.inj q1).symm
theorem Bk.step {c:Setup} {b0 i d:Nat} {x:LN} {H:List Pk} (h:Bk c b0 i d x H) (hr:rightC c=true) (hi:i < 80) (t:StV):∃a H',Bk c b0 (i + 1) (d + a) (x.step t) H'∧Told c b0 x (x.step t) t (x.ns t) (x.nk t) (x.err t):=by
 have hm:=bP hr;by_cases hw:x.s.writeE t.w=0
 case neg=>
  have hp:(x.s1 t).c.p=true:=count_no hw;have e1:x.step t=⟨x.s1 t,x.k⟩:=by unfold LN.step;rw [if_pos hw]
  have e2:x.err t=x.s.writeE t.w:=by unfold LN.err;rw [if_pos hw]
  have e3:x.ns t=0:=by unfold LN.ns;rw [if_pos hw]
  have e4:x.nk t=0:=by unfold LN.nk;rw [if_pos hw]
  rw [e1,e2,e3,e4];refine ⟨0,H,⟨⟨(SN.write_ok h.ok.s t.w).mono (by omega) (by omega),h.ok.k.more (by omega),h.ok.num⟩,h.len,h.out,h.lnk,h.inn,h.del,by have:=h.came;show x.k.came≤_;omega,h.lost,fun q=>?_⟩,⟨Nat.le_refl _,⟨0,rfl,⟨fun _=>rfl,fun _=>rfl⟩,Nat.zero_le _,fun q=>absurd q (by omega)⟩,fun q=>absurd q hw,fun _=>hp⟩⟩;have q':(x.s1 t).c.p=false:=q;rw [hp] at q';cases q'
 case pos=>
 obtain ⟨a,a1,a2,a3,a4,⟨g,a5⟩,a6,a7⟩:=h.told hr hi t hw;have hk:=k1_ok h.ok t;obtain ⟨l1,l2,l3,l4⟩:=CV h.lost (x.now t) t.x t.cs;have hall:∀p∈(x.k1 t).all,p∈x.k.all:=fun p hp=>by rw [all_tick x.k (x.now t) t.x t.cs];exact List.mem_append_right _ hp
 have hdel:d + a≤(x.k1 t).deliv:=by
  show d + a≤(x.k.tick (x.now t) t.x t.cs).deliv
  rw [l4];have:=h.del;have e:bU (x.k.tickOut (x.now t) t.x t.cs)=aR (x.out t):=rfl;omega
 have hca:(x.k1 t).came=x.k.came:=l2;have hcb:=h.came;by_cases hae:x.ae t=0
 case neg=>
  have e1:x.step t=⟨x.s2 t,x.k1 t⟩:=by unfold LN.step;rw [if_neg (by simp [hw]),if_pos hae]
  have e2:x.err t=x.ae t:=by unfold LN.err;rw [if_neg (by simp [hw]),if_pos hae]
  have e3:x.ns t=0:=by unfold LN.ns;rw [if_neg (by simp [hw]),if_pos hae]
  have e4:x.nk t=0:=by unfold LN.nk;rw [if_neg (by simp [hw]),if_pos hae]
  rw [e1,e2,e3,e4];refine ⟨a,H,⟨⟨a2.mono (by omega) (by omega),hk.more (by omega),fun p hp=>?_⟩,?_,fun p hp=>?_,fun p hp=>h.lnk p (hall p hp),?_,hdel,by show (x.k1 t).came≤_;omega,l1,fun q=>?_⟩,⟨Nat.le_refl _,⟨0,hca,⟨fun _=>rfl,fun _=>rfl⟩,Nat.zero_le _,fun q=>absurd q (by omega)⟩,fun q=>absurd q hae,fun _=>a6 hae⟩⟩
  ·show p.n < (x.s2 t).L.next;rw [a4];exact h.ok.num p (hall p hp)
  ·show _=(x.s2 t).L.next;rw [a4];exact h.len
  ·have hp':p∈(x.s2 t).L.out:=hp
   rw [a5] at hp';exact h.out p (List.mem_filter.1 hp').1
  ·show Inn (x.s2 t).L.out;rw [a5];exact inn_filter h.inn g
  ·have q':(x.s2 t).c.p=false:=q
   rw [a6 hae] at q';cases q'
 case pos=>
 have e1:x.step t=⟨(x.s2 t).tickS (x.now t),(x.k1 t).sends (x.gone t)⟩:=by unfold LN.step;rw [if_neg (by simp [hw]),if_neg (by simp [hae])]
 have e2:x.err t=(x.s2 t).tickE (x.now t):=by unfold LN.err;rw [if_neg (by simp [hw]),if_neg (by simp [hae])]
 have e3:x.ns t=(x.gone t).length:=by unfold LN.ns;rw [if_neg (by simp [hw]),if_neg (by simp [hae])]
 have e4:x.nk t=(x.k1 t).kept (x.gone t):=by unfold LN.nk;rw [if_neg (by simp [hw]),if_neg (by simp [hae])]
 obtain ⟨o2,n2,g1,g2⟩:=tick_ok a2 hr (by omega) (x.now t);obtain ⟨f,hf⟩:=JP a2 hr (by omega) (x.now t);have hg:(x.s2 t).tickL (x.now t)=x.gone t:=rfl;rw [hg] at n2 g1 g2 hf;have hsz:∀p∈x.gone t,p.size≤65535:=fun p hp=>by have:=(g2 p hp).2.1;omega
 have htot:aR (x.gone t)≤65535 * 65:=Nat.le_trans (OJ hsz) (Nat.mul_le_mul_left _ g1);obtain ⟨s1',s2',s3',s4',s5'⟩:=oR (x.gone t) (x.k1 t) (65 * i) l1 hk hsz (by rw [xC];omega);have hnum:∀j,j < (x.gone t).length→((x.gone t).getD j Itm.z).n=H.length + j:=by
  intro j hj;rw [h.len,← a4];by_cases q:(x.s2 t).c.toE (x.now t)=0
  ·exact (SN.tick_yes a2 hr (by omega) q).1.num j hj
  ·have:x.gone t=[]:=(SN.tick_no q).2
   rw [this] at hj;exact absurd hj (by simp)
 obtain ⟨i1,i2⟩:=zI hnum;have hold:∀p:Pk,H[p.n]? =some p→(H ++ x.gone t)[p.n]? =some p:=fun p hp=>by
  rw [List.getElem?_append_left (List.getElem?_eq_some_iff.1 hp).1];exact hp
 have hnew:∀p∈x.gone t,(H ++ x.gone t)[p.n]? =some p:=fun p hp=>by
  obtain ⟨j,hj,rfl⟩:=List.mem_iff_getElem.1 hp;have:=hnum j hj;rw [List.getD_eq_getElem?_getD,List.getElem?_eq_getElem hj] at this;have e:((x.gone t)[j]).n=H.length + j:=this;rw [e,List.getElem?_append_right (by omega),Nat.add_sub_cancel_left,List.getElem?_eq_getElem hj]
 rw [e1,e2,e3,e4];refine ⟨a,H ++ x.gone t,⟨⟨o2.mono (by omega) (by omega),(hk.sends (l:=x.gone t) (fun p hp=>by have:=hsz p hp;omega)).more (by omega),fun p hp=>?_⟩,?_,fun p hp=>?_,fun p hp=>?_,?_,?_,?_,s1',fun q=>?_⟩,⟨mX _ _,⟨aR (x.gone t),?_,⟨fun q=>?_,fun q=>?_⟩,?_,fun q=>?_⟩,fun q=>?_,fun q=>?_⟩⟩
 ·show p.n < ((x.s2 t).tickS (x.now t)).L.next
  rcases sends_all _ _ p hp with z | z
  ·have:=h.ok.num p (hall p z);omega
  ·have:=(g2 p z).2.2;omega
 ·show _=((x.s2 t).tickS (x.now t)).L.next
  rw [List.length_append,n2,a4,h.len]
 ·have hp':p∈((x.s2 t).tickS (x.now t)).L.out:=hp
  rw [hf,a5] at hp';rcases List.mem_append.1 hp' with z | z
  ·exact hold p (h.out p (List.mem_filter.1 (List.mem_filter.1 z).1).1)
  ·exact hnew p z
 ·rcases sends_all _ _ p hp with z | z
  ·exact hold p (h.lnk p (hall p z))
  ·exact hnew p z
 ·show Inn ((x.s2 t).tickS (x.now t)).L.out
  rw [hf,a5];exact OI (inn_filter (inn_filter h.inn g) f) i1 (n:=H.length) (fun p hp=>(List.getElem?_eq_some_iff.1 (h.out p (List.mem_filter.1 (List.mem_filter.1 hp).1).1)).1) i2
 ·show d + a≤((x.k1 t).sends (x.gone t)).deliv
  rw [s3'];exact hdel
 ·show ((x.k1 t).sends (x.gone t)).came≤_
  rw [s2',xC];omega
 ·show ((x.s2 t).tickS (x.now t)).c.t≤((x.k1 t).sends (x.gone t)).t
  rw [s5',show (x.k1 t).t=x.now t from l3];have q':((x.s2 t).tickS (x.now t)).c.p=false:=q;by_cases z:(x.s2 t).c.toE (x.now t)=0
  ·rw [(SN.tick_yes a2 hr (by omega) z).1.ck];exact Nat.le_refl _
  ·have e:=(SN.tick_no z).1
   rw [e] at q';have:=to_no z (a7 hae);have e5:((x.s2 t).c.toS (x.now t)).p=false:=q';rw [this] at e5;cases e5
 ·show ((x.k1 t).sends (x.gone t)).came=_
  rw [s2',xC];omega
 ·have:x.gone t=[]:=AU (fun p hp=>(g2 p hp).1) q
  rw [this];rfl
 ·have:x.gone t=[]:=List.length_eq_zero_iff.1 q
  rw [this];rfl
 ·by_cases z:(x.s2 t).c.toE (x.now t)=0
  ·exact (SN.tick_yes a2 hr (by omega) z).1.all
  ·have:x.gone t=[]:=(SN.tick_no z).2
   rw [this];exact Nat.zero_le _
 ·by_cases z:(x.s2 t).c.toE (x.now t)=0
  ·exact (SN.tick_yes a2 hr (by omega) z).1.le (fun e=>by
    have e':x.gone t=[]:=e;rw [e',fF] at q;omega)
  ·have:x.gone t=[]:=(SN.tick_no z).2
   rw [this,fF] at q;omega
 ·show ((x.s2 t).tickS (x.now t)).c.n=_
  have z:(x.s2 t).c.toE (x.now t)=0:=q;rw [(SN.tick_yes a2 hr (by omega) z).1.ck];exact a3
 ·have z:(x.s2 t).c.toE (x.now t)≠0:=q
  show ((x.s2 t).tickS (x.now t)).c.p=true
  rw [(SN.tick_no z).1];exact to_no z (a7 hae)
end LN
end Go.Proofs.YtjhiooggnpbecaaGreatDoor
