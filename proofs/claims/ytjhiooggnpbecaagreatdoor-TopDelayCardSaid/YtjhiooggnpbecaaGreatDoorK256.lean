/- Lemmas. -/
import Derived.Test.YtjhiooggnpbecaaGreatDoorK255
import Derived.Test.YtjhiooggnpbecaaGreatDoorK238
set_option linter.unusedVariables false
namespace Go.Proofs.YtjhiooggnpbecaaGreatDoor
open Go.RowKit Cf
variable {k:LKS} {C T b d j r:Nat}
structure Dq (r d j b0 T C:Nat) (k:LKS):Prop where
 now:k.t=k.k.t
 rate:k.k.r=r
 dl:k.j.delay=d
 jt:k.j.jit=j
 room:k.q.room=b0
 sz:∀p∈k.q.l,p.size≤65535
 t:k.t≤T
 came:k.came≤C
 last:k.j.last≤k.t + d + j
 due:∀y∈k.j.l,y.due≤k.t + d + j
namespace Dq
theorem start (r d j b:Nat):Dq r d j b 0 0 (LKS.start r d j b):=⟨rfl,rfl,rfl,rfl,rfl,(fun p h=>nomatch h),Nat.le_refl _,Nat.le_refl _,Nat.zero_le _,(fun y h=>nomatch h)⟩
theorem mono {T' C':Nat} (h:Dq r d j b T C k) (hT:T≤T') (hC:C≤C'):Dq r d j b T' C' k:=⟨h.now,h.rate,h.dl,h.jt,h.room,h.sz,Nat.le_trans h.t hT,Nat.le_trans h.came hC,h.last,h.due⟩
theorem toT {r d j b T C now:Nat} {k:LKS} (h:Dq r d j b T C k) (hn:k.t≤now) (hT:now≤T):Dq r d j b T C (k.toT now):=by
 have h9:=h.last;have ht:(k.k.toS now).t=now:=LKS.to_t (by rw [← h.now];exact hn);have hr:(k.k.toS now).r=r:=by rw [← h.rate];unfold KB.toS;split <;> rfl
 refine ⟨?_,?_,?_,?_,?_,?_,?_,?_,?_,?_⟩
 ·rw [LKS.toT_t,LKS.toT_k,ht]
 ·rw [LKS.toT_k,hr]
 ·rw [LKS.toT_j];exact h.dl
 ·rw [LKS.toT_j];exact h.jt
 ·rw [LKS.toT_q];exact h.room
 ·rw [LKS.toT_q];exact h.sz
 ·rw [LKS.toT_t];exact hT
 ·rw [LKS.toT_came];exact h.came
 ·rw [LKS.toT_j,LKS.toT_t];omega
 ·rw [LKS.toT_j,LKS.toT_t];intro y hy;have:=h.due y hy;omega
theorem own_le (s:BxS) (now ch:Nat):s.ownT now ch≤now + s.delay + s.jit:=by
 unfold BxS.ownT Pl.addS;omega
theorem serve1 {r d j b T C:Nat} {k:LKS} (h:Dq r d j b T C k) (hm:k.may=true) (c:Nat):Dq r d j b T C (k.serve1 c):=by
 have e:=LKS.some_cons (LKS.may_some hm);have hl:=h.last;have ho:=own_le k.j k.t c;rw [h.dl,h.jt] at ho;have hd:k.j.dueB k.t c≤k.t + d + j:=by unfold BxS.dueB;omega
 refine ⟨?_,?_,?_,?_,?_,?_,?_,?_,?_,?_⟩
 ·rw [LKS.serve1_t,LKS.serve1_kt];exact h.now
 ·rw [LKS.serve1_k,(LKS.take_r _ _).1];exact h.rate
 ·rw [LKS.serve1_j];exact h.dl
 ·rw [LKS.serve1_j];exact h.jt
 ·rw [LKS.serve1_q];exact h.room
 ·rw [LKS.serve1_q];intro p hp;exact h.sz p (by rw [e];exact List.mem_cons_of_mem _ hp)
 ·rw [LKS.serve1_t];exact h.t
 ·rw [LKS.serve1_came];exact h.came
 ·rw [LKS.serve1_j,LKS.serve1_t];exact hd
 ·rw [LKS.serve1_j,LKS.serve1_t]
  intro y hy;rcases List.mem_append.1 (show y∈k.j.l ++ [⟨k.q.headQ,k.j.dueB k.t c⟩] from hy) with q | q
  ·exact h.due y q
  ·rw [List.mem_singleton.1 q];exact hd
theorem ahead {r d j b T C now:Nat} {k:LKS} (h:Dq r d j b T C k) (hn:k.t≤now) (hT:now≤T) (x:Nat) (cs:List Nat):Dq r d j b T C (k.ahead now x cs):=by
 have h1:=LKS.serve_ind (P:=Dq r d j b T C) (fun s c hs hm=>serve1 hs hm c) _ _ cs rfl (h.toT hn hT);unfold LKS.ahead LKS.wasteL;split
 ·exact h1
 ·refine ⟨?_,?_,?_,?_,?_,?_,?_,?_,?_,?_⟩
  ·rw [LKS.wasteK_t,LKS.wasteK_k];exact h1.now
  ·rw [LKS.wasteK_k];exact h1.rate
  ·rw [LKS.wasteK_j];exact h1.dl
  ·rw [LKS.wasteK_j];exact h1.jt
  ·rw [LKS.wasteK_q];exact h1.room
  ·rw [LKS.wasteK_q];exact h1.sz
  ·rw [LKS.wasteK_t];exact h1.t
  ·rw [LKS.wasteK_came];exact h1.came
  ·rw [LKS.wasteK_j,LKS.wasteK_t];exact h1.last
  ·rw [LKS.wasteK_j,LKS.wasteK_t];exact h1.due
theorem tick {r d j b T C now:Nat} {k:LKS} (h:Dq r d j b T C k) (hn:k.t≤now) (hT:now≤T) (x:Nat) (cs:List Nat):Dq r d j b T C (k.tick now x cs):=by
 have h1:=h.ahead hn hT x cs;unfold LKS.tick;refine ⟨?_,?_,?_,?_,?_,?_,?_,?_,?_,?_⟩
 ·rw [LKS.deliver_t,LKS.deliver_k];exact h1.now
 ·rw [LKS.deliver_k];exact h1.rate
 ·rw [LKS.deliver_j];exact h1.dl
 ·rw [LKS.deliver_j];exact h1.jt
 ·rw [LKS.deliver_q];exact h1.room
 ·rw [LKS.deliver_q];exact h1.sz
 ·rw [LKS.deliver_t];exact h1.t
 ·rw [LKS.deliver_came];exact h1.came
 ·rw [LKS.deliver_j,LKS.deliver_t];exact h1.last
 ·rw [LKS.deliver_j,LKS.deliver_t];intro y hy;exact h1.due y ((List.dropWhile_sublist _).subset hy)
theorem sends {r d j b T:Nat}:∀(l:List Pk) {C:Nat} {k:LKS},Dq r d j b T C k→(∀p∈l,p.size≤65535)→Dq r d j b T (C + 65535 * l.length) (k.sends l)
 | [],C,k,h,_=>h
 | p :: l,C,k,h,hs=>by
   have hp:=hs p List.mem_cons_self;have h1:Dq r d j b T (C + 65535) (k.send1 p):=by
    refine ⟨?_,?_,?_,?_,?_,?_,?_,?_,?_,?_⟩
    ·rw [LKS.send1_t,LKS.send1_k];exact h.now
    ·rw [LKS.send1_k];exact h.rate
    ·rw [LKS.send1_j];exact h.dl
    ·rw [LKS.send1_j];exact h.jt
    ·rw [LKS.send1_q];unfold QK.putQ;split <;> exact h.room
    ·rw [LKS.send1_q]
     intro y hy;unfold QK.putQ at hy;split at hy
     ·rcases List.mem_append.1 (show y∈k.q.l ++ [p] from hy) with q | q
      ·exact h.sz y q
      ·rw [List.mem_singleton.1 q];exact hp
     ·exact h.sz y hy
    ·rw [LKS.send1_t];exact h.t
    ·rw [LKS.send1_came];have:=h.came;omega
    ·rw [LKS.send1_j,LKS.send1_t];exact h.last
    ·rw [LKS.send1_j,LKS.send1_t];exact h.due
   have:=sends l h1 (fun x hx=>hs x (List.mem_cons_of_mem _ hx));rw [List.length_cons,show C + 65535 * (l.length + 1)=C + 65535 + 65535 * l.length by omega];exact this
theorem step {c:Setup} {r d j b i m:Nat} {x:LN} (h:Dq r d j b (1073741824 * i) (4259775 * i) x.k) (ho:x.ok c i m) (hr:rightC c=true) (hi:i < 80) (t:StV) (ht:t.a≤1073741824):Dq r d j b (1073741824 * (i + 1)) (4259775 * (i + 1)) (x.step t).k:=by
 have hm:=bP hr;have h0:=h.mono (T':=1073741824 * (i + 1)) (C':=4259775 * (i + 1)) (by omega) (by omega);have htl:=h.t;have hn:x.now t≤1073741824 * (i + 1):=by unfold LN.now Pl.addS;omega
 have h1:Dq r d j b (1073741824 * (i + 1)) (4259775 * i) (x.k1 t):=(h.mono (by omega) (Nat.le_refl _)).tick (LN.now_ge ho.k t) hn t.x t.cs;unfold LN.step;split
 ·exact h0
 ·split
  ·exact h1.mono (Nat.le_refl _) (by omega)
  ·obtain ⟨g1,g2⟩:=LN.gone_ok ho hr hi t
   have:=h1.sends (x.gone t) (fun p hp=>by have:=(g2 p hp).2;omega);exact this.mono (Nat.le_refl _) (by omega)
def full (r b:Nat):Nat:=(1000000 * b + r - 1) / r
structure End (k k1 k2:LKS) (C N:Nat):Prop where
 s1:k.served + k.q.n≤k1.served
 d2:k.served + k.q.n≤k2.deliv
 c0:k.served + k.q.n≤C
 c1:k1.served≤C
 c2:k2.deliv≤C
 ok1:k1.ok N
 ok2:k2.ok N
theorem serve_j (k:LKS) (cs:List Nat):∃e,(k.serve cs).j.l=k.j.l ++ e:=LKS.serve_ind (P:=fun s=>∃e,s.j.l=k.j.l ++ e) (fun s c hs _=>by
 obtain ⟨e,he⟩:=hs;refine ⟨e ++ [⟨s.q.headQ,s.j.dueB s.t c⟩],?_⟩;rw [LKS.serve1_j];show s.j.l ++ [_]=_
 rw [he,List.append_assoc]) _ k cs rfl ⟨[],(List.append_nil _).symm⟩
theorem serve_d (k:LKS) (cs:List Nat):(k.serve cs).deliv=k.deliv:=LKS.serve_ind (P:=fun s=>s.deliv=k.deliv) (fun s c hs _=>by rw [LKS.serve1_deliv];exact hs) _ k cs rfl rfl
theorem ends {N:Nat} (h:Dq r d j b T C k) (ho:k.ok N) (hr:1≤r) (hT:T + full r b + d + j≤↑ω) (hC:C≤1099511627776):
  End k (k.tick (k.t + full r b) 0 []) ((k.tick (k.t + full r b) 0 []).tick ((k.tick (k.t + full r b) 0 []).t + d + j) 0 []) C N:=by
 have hq:=ho.q.n;have hle:=ho.q.le;rw [h.room] at hle;have hca:=h.came;have hc1:=ho.c1;have ht:=h.t;have hw:=LKS.wait_enough (n:=b) hr;have hf:1000000 * k.q.n≤r * full r b:=Nat.le_trans (Nat.mul_le_mul_left _ hle) hw;have hl:=LKS.to_least (k:=k.k) (now:=k.t + full r b) (w:=full r b) (r:=r) (y:=1000000 * k.q.n) h.rate (by rw [h.now]) hf (by omega);have hs:=LKS.serve_least k.q.l [] (k.toT (k.t + full r b)) [] (by rw [LKS.toT_q,List.append_nil]) (fun p hp=>by have:=h.sz p hp;omega) (by rw [LKS.toT_k,← hq];exact hl);rw [LKS.toT_served,← hq] at hs;have s1:k.served + k.q.n≤(k.tick (k.t + full r b) 0 []).served:=by
  unfold LKS.tick LKS.ahead;rw [LKS.deliver_served];unfold LKS.wasteL;split
  ·exact hs
  ·rw [LKS.wasteK_served];exact hs
 have h1:=(h.mono (T':=T + full r b) (Nat.le_add_right _ _) (Nat.le_refl C)).tick (now:=k.t + full r b) (Nat.le_add_right _ _) (by omega) 0 [];have o1:=ho.tick (now:=k.t + full r b) (by omega) 0 [];clear hs hl hf hw;generalize k.tick (k.t + full r b) 0 []=k1 at *;have ht1:=h1.t;have h2:=(h1.mono (T':=T + full r b + d + j) (by omega) (Nat.le_refl C)).tick (now:=k1.t + d + j) (by omega) (by omega) 0 [];have o2:=o1.tick (now:=k1.t + d + j) (by omega) 0 [];have hd:k1.served≤(k1.tick (k1.t + d + j) 0 []).deliv:=by
  have hc2:=o1.c2;unfold LKS.tick;rw [LKS.deliver_deliv];unfold LKS.out;rw [LKS.ahead_t];obtain ⟨e,he⟩:=serve_j (k1.toT (k1.t + d + j)) [];have hj:(k1.ahead (k1.t + d + j) 0 []).j.l=k1.j.l ++ e:=by
   unfold LKS.ahead LKS.wasteL;split
   ·rw [he,LKS.toT_j]
   ·rw [LKS.wasteK_j,he,LKS.toT_j]
  have hdl:(k1.ahead (k1.t + d + j) 0 []).deliv=k1.deliv:=by
   unfold LKS.ahead LKS.wasteL;split
   ·rw [serve_d,LKS.toT_deliv]
   ·rw [LKS.wasteK_deliv,serve_d,LKS.toT_deliv]
  rw [hdl];unfold BxS.told;rw [hj,List.takeWhile_append_of_pos (p:=gP (k1.t + d + j)) (fun y hy=>by unfold gP;exact decide_eq_true (h1.due y hy)),List.map_append,fX];have:bU k1.j.pks=bU (List.map Jp.p k1.j.l):=rfl;omega
 have hc3:=h2.came;have hc4:=o2.c1;have hc5:=o2.c2;have hc6:=h1.came;have hc7:=o1.c1;exact ⟨s1,by omega,by omega,by omega,by omega,o1,o2⟩
end Dq
end Go.Proofs.YtjhiooggnpbecaaGreatDoor
