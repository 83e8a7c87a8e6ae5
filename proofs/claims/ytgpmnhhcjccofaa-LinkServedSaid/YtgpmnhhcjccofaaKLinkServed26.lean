/- 3 texts put together: what each one says stands ahead of it. -/
import Derived.Test.YtgpmnhhcjccofaaKLinkServed24
import Derived.Test.YtgpmnhhcjccofaaKLinkServed25
set_option linter.unusedVariables false
namespace Go.Proofs.Ytgpmnhhcjccofaa
open Go.RowKit
namespace LS
theorem serve_le (s:LS) (cs:List Nat):s.served≤(s.serve cs).served:=serve_ind (P:=fun x=>s.served≤x.served) (fun x c h hm=>by rw [serve1_served];omega) _ s cs rfl (Nat.le_refl _)
theorem takeB_yes {k:KB} {x:Nat} (hx:x≤1073741824) (h:1000000 * x≤k.n):k.takeB x=true:=by
 unfold KB.takeB KB.spendB
 rw [mul_size hx]
 exact decide_eq_true h
theorem serve_least:∀(l:List Pk) (e:List Pk) (s:LS) (cs:List Nat),s.q.l=l ++ e→(∀x∈l,x.size≤1073741824)→1000000 * totP l≤s.k.n→s.served + totP l≤(s.serve cs).served
 | [],e,s,cs,_,_,_=>by rw [totP_nil];exact serve_le s cs
 | x :: t,e,s,cs,h1,h2,h3=>by
   have hx:=h2 x (by simp)
   rw [totP_cons] at h3
   have hs:s.q.someQ=true:=(some_iff s.q).2 (by rw [h1];simp)
   have hh:s.q.headQ=x:=by unfold QK.headQ;rw [h1];rfl
   have hm:s.may=true:=by
    unfold may
    rw [hs,hh,takeB_yes hx (by omega)]
    rfl
   obtain ⟨t1,_,_⟩:=take_n (k:=s.k) (may_take hm) (by rw [hh];exact hx)
   have e1:(s.serve1 (cs.getD 0 0)).q.l=t ++ e:=by rw [serve1_q];show s.q.l.drop 1=_;rw [h1];rfl
   have hk:(s.serve1 (cs.getD 0 0)).k.n + 1000000 * x.size=s.k.n:=by rw [serve1_k];rw [hh] at t1 ⊢;exact t1
   have hv:(s.serve1 (cs.getD 0 0)).served=s.served + x.size:=by rw [serve1_served,hh]
   have:=serve_least t e (s.serve1 (cs.getD 0 0)) (cs.drop 1) e1 (fun y hy=>h2 y (by simp [hy])) (by clear t1;omega)
   rw [serve_yes hm,totP_cons]
   clear t1 h1 h2 hm e1
   omega
theorem put_more (q:QK) (p:Pk):∃e,(q.putQ p).l=q.l ++ e:=by
 unfold QK.putQ;split
 ·exact ⟨[p],rfl⟩
 ·exact ⟨[],by simp [QK.dropQ]⟩
theorem sends_more (l:List Pk):∀s:LS,∃e,(s.sends l).q.l=s.q.l ++ e:=by
 induction l with
 | nil=>intro s;exact ⟨[],by simp [LS.sends]⟩
 | cons p t ih=>
   intro s
   obtain ⟨e1,h1⟩:=ih (s.send1 p)
   obtain ⟨e2,h2⟩:=put_more s.q p
   exact ⟨e2 ++ e1,by rw [show s.sends (p :: t)=(s.send1 p).sends t from rfl,h1,send1_q,h2,List.append_assoc]⟩
def wait (s:LS) (r:Nat):Nat:=(1000000 * s.q.n + r - 1) / r
theorem wait_enough {n r:Nat} (hr:1≤r):1000000 * n≤r * ((1000000 * n + r - 1) / r):=by
 have h1:=Nat.div_add_mod (1000000 * n + r - 1) r
 have h2:=Nat.mod_lt (1000000 * n + r - 1) (show 0 < r by omega)
 generalize 1000000 * n=y at *
 generalize (y + r - 1) / r=z at *
 generalize (y + r - 1) % r=m at *
 generalize r * z=x at *
 omega
theorem to_least {k:KB} {now w r y:Nat} (hr:k.r=r) (ht:now=k.t + w) (hy:y≤r * w) (hm:y≤18446744073709551615):y≤(k.toS now).n:=by
 unfold KB.toS
 split
 ·next c=>
  have:w=0:=by omega
  subst this
  omega
 ·show y≤Pl.addS k.n (Pl.mulS k.r (now - k.t))
  rw [hr,show now - k.t=w by omega]
  unfold Pl.addS Pl.mulS
  generalize r * w=x at *
  omega
structure Bound (r:Nat) (s:LS) (f b0:Nat):Prop where
 ok:s.ok f
 now:s.t=s.k.t
 rate:s.k.r=r
 sz:∀x∈s.q.l,x.size≤1073741824
 room:s.q.room=b0
 q:s.q.n≤1073741824 * 3600
 served:s.served + s.q.n≤1073741824 * 3600
 t:s.t≤1073741824 * 60
 f:f≤3600
theorem Sm.bound {r k b0 f:Nat} {s:LS} (h:Sm r s f k) (hk:k≤60) (hb:s.q.room=b0):Bound r s f b0:=by
 have h1:=h.came
 have h2:=h.ok.c1
 have h3:=h.few
 have h4:=h.t
 have h5:=h.ok.q.n
 have h6:1073741824 * k≤1073741824 * 60:=Nat.mul_le_mul_left _ hk
 exact ⟨h.ok,h.now,h.rate,h.sz,hb,by omega,by omega,by omega,by omega⟩
theorem waits {r b0 f:Nat} {s:LS} (h:Bound r s f b0) (hr:1≤r) (l:List Pk):s.served + s.q.n≤((s.sends l).tick (s.t + s.wait r) 0 []).served:=by
 obtain ⟨e,he⟩:=sends_more l s
 obtain ⟨g1,g2,g3,g4,g5,g6,g7⟩:=sends_same l s
 have h2:=h.q
 have hl:=to_least (k:=s.k) (now:=s.t + s.wait r) (w:=s.wait r) (r:=r) (y:=1000000 * s.q.n) h.rate (by rw [h.now]) (wait_enough hr) (by omega)
 have:=serve_least s.q.l e ((s.sends l).toT (s.t + s.wait r)) [] (by rw [toT_q,he]) h.sz (by rw [toT_k,g2,← h.ok.q.n];exact hl)
 rw [toT_served,g5,← h.ok.q.n] at this
 unfold tick ahead
 rw [deliver_served]
 unfold wasteL
 split
 ·exact this
 ·rw [wasteK_served];exact this
end LS
end Go.Proofs.Ytgpmnhhcjccofaa

set_option linter.unusedVariables false
namespace Go.Proofs.Ytgpmnhhcjccofaa
open Go.RowKit
namespace LS
structure Like (a b:LS) (x:Nat):Prop where
 q:a.q=b.q
 served:a.served=b.served
 n:b.k.n=a.k.n + x
 w:b.k.w=a.k.w
theorem takeB_more {k k':KB} {z x:Nat} (h:k.takeB z=true) (hn:k'.n=k.n + x):k'.takeB z=true:=by
 unfold KB.takeB KB.spendB at *
 generalize Pl.mulS z 1000000=m at *
 have:=of_decide_eq_true h
 exact decide_eq_true (by omega)
theorem takeS_more {k k':KB} {z x:Nat} (h:k.takeB z=true) (hn:k'.n=k.n + x):(k'.takeS z).n=(k.takeS z).n + x∧(k'.takeS z).w=k'.w∧(k.takeS z).w=k.w:=by
 unfold KB.takeB KB.spendB at *
 unfold KB.takeS KB.spendS
 generalize Pl.mulS z 1000000=m at *
 have h':=of_decide_eq_true h
 rw [if_pos h',if_pos (show m≤k'.n by omega)]
 exact ⟨by show k'.n - m=k.n - m + x;omega,rfl,rfl⟩
theorem serve_like:∀(n:Nat) (a b:LS) (ca cb:List Nat) (x:Nat),a.q.l.length=n→Like a b x→∃(b':LS) (cb':List Nat),b.serve cb=b'.serve cb'∧Like (a.serve ca) b' x
 | n,a,b,ca,cb,x,hn,h=>by
   cases hm:a.may with
   | false=>rw [serve_no hm];exact ⟨b,cb,rfl,h⟩
   | true=>
     have hb:b.may=true:=by
      have h1:=may_some hm
      have h2:=takeB_more (may_take hm) h.n
      unfold may
      rw [← h.q,h1,h2]
      rfl
     obtain ⟨t1,t2,t3⟩:=takeS_more (may_take hm) h.n
     have e1:=serve1_len hm (ca.getD 0 0)
     rw [serve_yes hm,serve_yes hb]
     match n,hn with
     | 0,hn=>omega
     | n + 1,hn=>
       exact serve_like n (a.serve1 (ca.getD 0 0)) (b.serve1 (cb.getD 0 0)) (ca.drop 1) (cb.drop 1) x (by omega) ⟨by rw [serve1_q,serve1_q,h.q],by rw [serve1_served,serve1_served,h.q,h.served],by rw [serve1_k,serve1_k,← h.q];exact t1,by rw [serve1_k,serve1_k,← h.q,t2,t3];exact h.w⟩
theorem serve_end:∀(s:LS) (cs:List Nat),(s.serve cs).may=false:=by
 have:∀(n:Nat) (s:LS) (cs:List Nat),s.q.l.length=n→(s.serve cs).may=false:=by
  intro n
  induction n with
  | zero=>
    intro s cs hn
    cases hm:s.may with
    | false=>rw [serve_no hm];exact hm
    | true=>have:=serve1_len hm 0;omega
  | succ n ih=>
    intro s cs hn
    cases hm:s.may with
    | false=>rw [serve_no hm];exact hm
    | true=>
      rw [serve_yes hm]
      have:=serve1_len hm (cs.getD 0 0)
      exact ih _ _ (by omega)
 exact fun s cs=>this _ s cs rfl
theorem serve_same (a b:LS) (ca cb:List Nat) (h:Like a b 0):Like (a.serve ca) (b.serve cb) 0:=by
 obtain ⟨b',cb',e,h'⟩:=serve_like _ a b ca cb 0 rfl h
 have hk:(a.serve ca).may=false:=serve_end a ca
 have:b'.may=false:=by
  unfold may at *
  rw [← h'.q]
  cases hs:(a.serve ca).q.someQ with
  | false=>exact Bool.false_and _
  | true=>
    rw [hs,Bool.true_and] at hk
    rw [Bool.true_and]
    unfold KB.takeB KB.spendB at *
    rw [h'.n,Nat.add_zero]
    exact hk
 rw [e,serve_no this]
 exact h'
end LS
namespace LS
theorem to_n2 {k:KB} {r t1 t2:Nat} (hr:k.r=r) (h1:k.t≤t1) (h2:t1≤t2) (hn:k.n + r * (t2 - k.t)≤18446744073709551615):(k.toS t2).n=(k.toS t1).n + r * (t2 - t1)∧(k.toS t2).w=k.w∧(k.toS t1).w=k.w:=by
 have e:r * (t2 - k.t)=r * (t1 - k.t) + r * (t2 - t1):=by rw [← Nat.mul_add,show t2 - k.t=t1 - k.t + (t2 - t1) by omega]
 obtain ⟨a1,a2,a3⟩:=to_n (k:=k) (now:=t2) hr (by omega) hn
 obtain ⟨b1,b2,b3⟩:=to_n (k:=k) (now:=t1) hr h1 (by omega)
 exact ⟨by rw [a1,b1,e];omega,a2,b2⟩
theorem waste0 (s:LS) (h:s.k.w≤18446744073709551615):(s.wasteL 0).q=s.q∧(s.wasteL 0).served=s.served∧(s.wasteL 0).k.n=s.k.n∧(s.wasteL 0).k.w=s.k.w∧(s.wasteL 0).k.r=s.k.r∧(s.wasteL 0).k.t=s.k.t:=by
 unfold wasteL;split
 ·exact ⟨rfl,rfl,rfl,rfl,rfl,rfl⟩
 ·refine ⟨wasteK_q s 0,wasteK_served s 0,?_,?_,by rw [wasteK_k];rfl,by rw [wasteK_k];rfl⟩
  ·rw [wasteK_k];show s.k.n - min 0 s.k.n=s.k.n;omega
  ·rw [wasteK_k];show Pl.addS s.k.w (min 0 s.k.n)=s.k.w;unfold Pl.addS;omega
theorem tick0 (s:LS) (now:Nat) {N:Nat} (ho:s.ok N) (hm:now≤18446744073709551615):(s.tick now 0 []).q=((s.toT now).serve []).q∧(s.tick now 0 []).served=((s.toT now).serve []).served∧(s.tick now 0 []).k.n=((s.toT now).serve []).k.n∧(s.tick now 0 []).k.w=((s.toT now).serve []).k.w∧(s.tick now 0 []).k.r=((s.toT now).serve []).k.r∧(s.tick now 0 []).k.t=((s.toT now).serve []).k.t:=by
 have h:=waste0 ((s.toT now).serve []) ((ho.toT hm).serve []).k.2.1
 unfold tick ahead
 rw [deliver_q,deliver_served,deliver_k]
 exact h
theorem serve_kr (s:LS) (cs:List Nat):(s.serve cs).k.r=s.k.r∧(s.serve cs).k.t=s.k.t:=
 serve_ind (P:=fun x=>x.k.r=s.k.r∧x.k.t=s.k.t) (fun x c h hm=>⟨by rw [serve1_k,(take_r _ _).1];exact h.1,(serve1_kt x c).trans h.2⟩) _ s cs rfl ⟨rfl,rfl⟩
theorem serve_nn (s:LS) (cs:List Nat):(s.serve cs).k.n≤s.k.n:=
 serve_ind (P:=fun x=>x.k.n≤s.k.n) (fun x c h hm=>by
  rw [serve1_k]
  refine Nat.le_trans ?_ h
  unfold KB.takeS
  generalize Pl.mulS x.q.headQ.size 1000000=m
  unfold KB.spendS
  split
  ·exact Nat.sub_le _ _
  ·exact Nat.le_refl _) _ s cs rfl (Nat.le_refl _)
theorem to_twice (k:KB) {t1 t2:Nat} (h0:k.t≤t1) (h1:t1≤t2) (hk:k.ok):((k.toS t1).toS t2).n=(k.toS t2).n:=by
 have e:k.r * (t2 - k.t)=k.r * (t1 - k.t) + k.r * (t2 - t1):=by rw [← Nat.mul_add,show t2 - k.t=t1 - k.t + (t2 - t1) by omega]
 have hn:=hk.1
 unfold KB.toS
 by_cases c1:t1≤k.t
 ·rw [if_pos c1]
 ·rw [if_neg c1]
  by_cases c2:t2≤t1
  ·obtain rfl:t1=t2:=by omega
   rw [if_pos (Nat.le_refl _),if_neg c1]
  ·rw [if_neg c2,if_neg (by omega)]
   show Pl.addS (Pl.addS k.n (Pl.mulS k.r (t1 - k.t))) (Pl.mulS k.r (t2 - t1))=Pl.addS k.n (Pl.mulS k.r (t2 - k.t))
   unfold Pl.addS Pl.mulS
   rw [e]
   generalize k.r * (t1 - k.t)=x
   generalize k.r * (t2 - t1)=y
   omega
theorem to_keep (k:KB) (t:Nat):(k.toS t).w=k.w∧(k.toS t).r=k.r:=by unfold KB.toS;split <;> exact ⟨rfl,rfl⟩
theorem kb_ext {a b:KB} (h1:a.n=b.n) (h2:a.w=b.w) (h3:a.r=b.r) (h4:a.t=b.t):a=b:=by
 cases a;cases b;simp at h1 h2 h3 h4;subst h1 h2 h3 h4;rfl
theorem serve_none {s:LS} (h:s.q.someQ=false) (cs:List Nat):s.serve cs=s:=serve_no (by unfold may;rw [h];exact Bool.false_and _) cs
structure Alike (a b:LS):Prop where
 q:a.q=b.q
 served:a.served=b.served
 n:a.k.n=b.k.n
 w:a.k.w=b.k.w
theorem served_two (s:LS) (N r t1 t2:Nat) (ho:s.ok N) (hr:s.k.r=r) (h0:s.k.t≤t1) (h1:t1≤t2) (hm:t2≤18446744073709551615) (hn:s.k.n + r * (t2 - s.k.t)≤18446744073709551615):
  Alike (s.tick t2 0 []) ((s.tick t1 0 []).tick t2 0 []):=by
 obtain ⟨a1,a2,a3,a4,a5,a6⟩:=tick0 s t2 ho hm
 have ho1:=ho.tick (now:=t1) (by omega) 0 []
 obtain ⟨c1,c2,c3,c4,c5,c6⟩:=tick0 s t1 ho (by omega)
 obtain ⟨b1,b2,b3,b4,b5,b6⟩:=tick0 (s.tick t1 0 []) t2 ho1 hm
 obtain ⟨n1,n2,n3⟩:=to_n2 (k:=s.k) hr h0 h1 hn
 have hl:Like (s.toT t1) (s.toT t2) (r * (t2 - t1)):=⟨by rw [toT_q,toT_q],by rw [toT_served,toT_served],by rw [toT_k,toT_k];exact n1,by rw [toT_k,toT_k,n2,n3]⟩
 obtain ⟨b',cb',e,hl2⟩:=serve_like _ (s.toT t1) (s.toT t2) [] [] _ rfl hl
 have kt:((s.toT t1).serve []).k.t=t1:=by rw [(serve_kr _ _).2,toT_k];exact to_t h0
 have kr:((s.toT t1).serve []).k.r=r:=by rw [(serve_kr _ _).1,toT_k];unfold KB.toS;split <;> exact hr
 have kn:=serve_nn (s.toT t1) []
 rw [toT_k] at kn
 have nn:(s.k.toS t1).n + r * (t2 - t1)≤18446744073709551615:=by
  have:=(ho.toT (now:=t2) hm).k.1
  rw [toT_k,n1] at this
  exact this
 obtain ⟨m1,m2,m3⟩:=to_n (k:=(s.tick t1 0 []).k) (now:=t2) (r:=r) (by rw [c5,kr]) (by rw [c6,kt];exact h1) (by rw [c3,c6,kt];omega)
 have hs:Like ((s.tick t1 0 []).toT t2) b' 0:=⟨by rw [toT_q,c1];exact hl2.q,by rw [toT_served,c2];exact hl2.served,by rw [toT_k,m1,c3,c6,kt,Nat.add_zero];exact hl2.n,by rw [toT_k,m2,c4];exact hl2.w⟩
 have hf:=serve_same _ _ [] cb' hs
 exact ⟨by rw [a1,b1,e];exact hf.q.symm,by rw [a2,b2,e];exact hf.served.symm,by rw [a3,b3,e];exact hf.n,by rw [a4,b4,e];exact hf.w⟩
theorem served_none (s:LS) (N t1 t2:Nat) (ho:s.ok N) (h:s.q.someQ=false) (h0:s.k.t≤t1) (h1:t1≤t2) (hm:t2≤18446744073709551615):
  Alike (s.tick t2 0 []) ((s.tick t1 0 []).tick t2 0 []):=by
 obtain ⟨a1,a2,a3,a4,a5,a6⟩:=tick0 s t2 ho hm
 have ho1:=ho.tick (now:=t1) (by omega) 0 []
 obtain ⟨c1,c2,c3,c4,c5,c6⟩:=tick0 s t1 ho (by omega)
 obtain ⟨b1,b2,b3,b4,b5,b6⟩:=tick0 (s.tick t1 0 []) t2 ho1 hm
 have e1:(s.toT t1).serve []=s.toT t1:=serve_none (by rw [toT_q];exact h) []
 have e2:(s.toT t2).serve []=s.toT t2:=serve_none (by rw [toT_q];exact h) []
 rw [e1] at c1 c2 c3 c4 c5 c6
 rw [e2] at a1 a2 a3 a4 a5 a6
 have e3:((s.tick t1 0 []).toT t2).serve []=(s.tick t1 0 []).toT t2:=serve_none (by rw [toT_q,c1,toT_q];exact h) []
 rw [e3] at b1 b2 b3 b4 b5 b6
 have ek:(s.tick t1 0 []).k=s.k.toS t1:=kb_ext (by rw [c3,toT_k]) (by rw [c4,toT_k]) (by rw [c5,toT_k]) (by rw [c6,toT_k])
 refine ⟨?_,?_,?_,?_⟩
 ·rw [a1,b1,toT_q,toT_q,c1,toT_q]
 ·rw [a2,b2,toT_served,toT_served,c2,toT_served]
 ·rw [a3,b3,toT_k,toT_k,ek,to_twice s.k h0 h1 ho.k]
 ·rw [a4,b4,toT_k,toT_k,ek,(to_keep _ _).1,(to_keep _ _).1,(to_keep _ _).1]
end LS
structure TwoE (W:World) (bx by_:Nat) (s t:LS) (w:World):Prop where
 at_:∃p q:PL,p.b=bx∧q.b=by_∧LkAt w p s∧LkAt w q t∧(∀x∈p.l,W.heap.size≤x)∧(∀x∈q.l,W.heap.size≤x)∧∀x∈p.l,x ∉ q.l
 bel:Below W.heap.size W w
theorem TwoE.to {W w w':World} {bx by_:Nat} {s t:LS} (h:TwoE W bx by_ s t w) (k:Below w.heap.size w w'):TwoE W bx by_ s t w':=by
 obtain ⟨p,q,h1,h2,h3,h4,h5⟩:=h.at_
 exact ⟨⟨p,q,h1,h2,h3.keep k,h4.keep k,h5⟩,bel_to h.bel k h.bel.size⟩
theorem TwoE.flip {W w:World} {bx by_:Nat} {s t:LS} (h:TwoE W bx by_ s t w):TwoE W by_ bx t s w:=by
 obtain ⟨p,q,h1,h2,h3,h4,h5,h6,h7⟩:=h.at_
 exact ⟨⟨q,p,h2,h1,h4,h3,h6,h5,fun x hx hp=>h7 x hp hx⟩,h.bel⟩
theorem TwoE.one {W w:World} {bx by_:Nat} {s t:LS} (h:TwoE W bx by_ s t w):OwnE W bx s w:=by
 obtain ⟨p,q,h1,h2,h3,h4,h5,h6,h7⟩:=h.at_
 exact ⟨p,h1,h3,h5,h.bel⟩
theorem two_li {W w w':World} {by_:Nat} {p q:PL} {s s' t:LS} (h2:q.b=by_) (h3:LkAt w p s) (h4:LkAt w q t) (h5:∀x∈p.l,W.heap.size≤x) (h6:∀x∈q.l,W.heap.size≤x) (h7:∀x∈p.l,x ∉ q.l) (hb:Below W.heap.size W w) (k:LI w p s' w'):TwoE W p.b by_ s' t w':=by
 obtain ⟨p',e1,e2,e3⟩:=k.new
 have sz:=hb.size
 refine ⟨⟨p',q,e1,h2,e2,h4.fr k.fr (fun x hx hm=>h7 x hm hx),fun x hx=>(e3 x hx).elim (h5 x) (Nat.le_trans sz),h6,fun x hx hq=>?_⟩,bel_fr hb k.fr sz h5⟩
 rcases e3 x hx with c | c
 ·exact h7 x c hq
 ·have:=h4.lt x hq
  omega
structure TwoS (W:World) (bx by_:Nat) (s t:LS) (ao:Option Addr) (l:List Pk) (w:World):Prop where
 at_:∃p q:PL,p.b=bx∧q.b=by_∧LkAt w p s∧LkAt w q t∧(∀x∈p.l,W.heap.size≤x)∧(∀x∈q.l,W.heap.size≤x)∧(∀x∈p.l,x ∉ q.l)∧(0 < l.length→Apart ao p.l)∧(0 < l.length→Apart ao q.l)
 its:Its w ao l
 bel:Below W.heap.size W w
theorem TwoS.two {W w:World} {bx by_:Nat} {s t:LS} {ao:Option Addr} {l:List Pk} (h:TwoS W bx by_ s t ao l w):TwoE W bx by_ s t w:=by
 obtain ⟨p,q,h1,h2,h3,h4,h5,h6,h7,_⟩:=h.at_
 exact ⟨⟨p,q,h1,h2,h3,h4,h5,h6,h7⟩,h.bel⟩
theorem TwoE.slice {W wr w:World} {bx by_:Nat} {s t:LS} {ao:Option Addr} {l:List Pk} (h:TwoE W bx by_ s t wr) (k:Below wr.heap.size wr w) (hi:Its w ao l) (ha:0 < l.length→∀a,ao=some a→wr.heap.size≤a.block):TwoS W bx by_ s t ao l w:=by
 obtain ⟨p,q,h1,h2,h3,h4,h5,h6,h7⟩:=h.at_
 refine ⟨⟨p,q,h1,h2,h3.keep k,h4.keep k,h5,h6,h7,fun hp a e hm=>?_,fun hp a e hm=>?_⟩,hi,bel_to h.bel k h.bel.size⟩
 ·have:=ha hp a e
  have:=h3.lt _ hm
  omega
 ·have:=ha hp a e
  have:=h4.lt _ hm
  omega
theorem TwoS.send {W:World} {bx by_:Nat} {s t:LS} {ao:Option Addr} {l:List Pk} {N n cap:Nat} (hn:l.length=n) (ho:s.ok N) (hz:∀x∈l,x.size≤18446744073709551615) (hN:N + l.length≤5000):∀w,TwoS W bx by_ s t ao l w→
  Calls Try.prog 18 #[.pointer (some ⟨bx,0,none⟩),.slice ao n cap] w fun e w'=>e=.returned (.int .i64 (s.kept l:Int))∧Hid (TwoS W bx by_ (s.sends l) t ao l w'):=fun w h=>by
 subst hn
 obtain ⟨p,q,rfl,h2,h3,h4,h5,h6,h7,h8,h9⟩:=h.at_
 refine (lk_Send p s N l ao cap w h3 ho h.its h8 hz hN).mono fun e w' k=>⟨k.e,Lib.hid ?_⟩
 obtain ⟨p',e1,e2,e3⟩:=k.li.new
 have sz:=h.bel.size
 have hlt:0 < l.length→∀a,ao=some a→a.block < w.heap.size:=fun hp a e=>by
  obtain ⟨b,off,e',hb,_⟩:=h.its hp
  rw [e] at e'
  injection e' with e'
  rw [e']
  exact hb
 refine ⟨⟨p',q,e1,h2,e2,h4.fr k.li.fr (fun x hx hm=>h7 x hm hx),fun x hx=>(e3 x hx).elim (h5 x) (Nat.le_trans sz),h6,fun x hx hq=>?_,fun hp a e hm=>?_,h9⟩,fun hp=>(h.its.frl k.li.fr (h8 hp)) hp,bel_fr h.bel k.li.fr sz h5⟩
 ·rcases e3 x hx with c | c
  ·exact h7 x c hq
  ·have:=h4.lt x hq
   omega
 ·rcases e3 _ hm with c | c
  ·exact h8 hp a e c
  ·have:=hlt hp a e
   omega
theorem TwoS.flip {W w:World} {bx by_:Nat} {s t:LS} {ao:Option Addr} {l:List Pk} (h:TwoS W bx by_ s t ao l w):TwoS W by_ bx t s ao l w:=by
 obtain ⟨p,q,h1,h2,h3,h4,h5,h6,h7,h8,h9⟩:=h.at_
 exact ⟨⟨q,p,h2,h1,h4,h3,h6,h5,fun x hx hp=>h7 x hp hx,h9,h8⟩,h.its,h.bel⟩
theorem two_Tick {W:World} {bx by_:Nat} {s t:LS} {now waste:Nat} {cs:List Nat} {ao:Option Addr} {cap:Nat} (ho:s.ok 5000) (hn:s.t≤now) (hm:now≤18446744073709551615) (hw:waste≤18446744073709551615) (hq:InNus W ao cs.length cap cs):∀w,TwoE W bx by_ s t w→
  Calls Try.prog 14 #[.pointer (some ⟨bx,0,none⟩),.int .u64 (now:Int),.int .u64 (waste:Int),.slice ao cs.length cap] w fun e w'=>∃v,e=.returned (.tuple #[v,.int .i64 0])∧Hid (TwoE W bx by_ (s.tick now waste cs) t w')∧Hid (KL w w'):=fun w h=>by
 obtain ⟨p,q,rfl,h2,h3,h4,h5,h6,h7⟩:=h.at_
 refine (lk_Tick p s now waste cs ao cap w h3 ho hn hm hw (away_in hq h.bel p h5)).mono fun e w' k=>?_
 obtain ⟨v,he,_⟩:=k.e
 exact ⟨v,he,Lib.hid (two_li h2 h3 h4 h5 h6 h7 h.bel k.li),Lib.hid (kl_of h3 k.li.fr)⟩
theorem in_nil (W:World):InNus W none ([]:List Nat).length 0 []:=⟨rfl,Nat.le_refl _,by omega,Nus.nil _ _,(fun c h=>nomatch h)⟩
theorem two_New {W w w':World} {bx by_:Nat} {s t:LS} (h:OwnE W bx s w) (k:OwnE w by_ t w'):TwoE W bx by_ s t w':=by
 obtain ⟨p,h1,h2⟩:=h
 obtain ⟨q,k1,k2⟩:=k
 have sz:=h2.bel.size
 refine ⟨⟨p,q,h1,k1,h2.at_.keep k2.bel,k2.at_,h2.lo,fun x hx=>Nat.le_trans sz (k2.lo x hx),fun x hx hq=>?_⟩,bel_to h2.bel k2.bel sz⟩
 have:=h2.at_.lt x hx
 have:=k2.lo x hq
 omega
end Go.Proofs.Ytgpmnhhcjccofaa

set_option linter.unusedVariables false
namespace Go.Proofs.Ytgpmnhhcjccofaa
open Go.RowKit
theorem empty_start (r d j b0:Nat):(LS.start r d j b0).q.someQ=false:=rfl
set_option maxRecDepth 100000 in
set_option maxHeartbeats 3000000 in
theorem LinkServed_walk (r d j b0:Nat) (v:Option Addr) (len cap:Nat) (n0 n1:Nat) (l:List Act21) (ab off:Nat) (W:World) (hp:r≤18446744073709551615∧d≤18446744073709551615∧j≤18446744073709551615∧b0≤18446744073709551615) (hl:l.length=len∧InAct21 W v l ab off) (hon:n0≤4294967295∧n1≤4294967295):
  Calls Try.prog 6 #[.agg #[.int .u64 (r:Int),.int .u64 (d:Int),.int .u64 (j:Int),.int .u64 (b0:Int)],.slice v len cap,.agg #[.int .u32 (n0:Int),.int .u32 (n1:Int)]] W fun e w'=>e=.returned (.bool true)∧Below W.heap.size W w':=by
 obtain ⟨rfl,hi⟩:=hl
 have HBel:Hid (Below W.heap.size W ((W.alloc (.cells #[.int .u64 (r:Int),.int .u64 (d:Int),.int .u64 (j:Int),.int .u64 (b0:Int)] 24)).alloc (.cells #[.int .u32 (n0:Int),.int .u32 (n1:Int)] 77))):=Lib.hid (((Below.refl _ _).alloc (Nat.le_refl _) _).alloc (by simp) _)
 have HI:=Lib.hid (hi.keep HBel.out)
 have BX1:Hid (Blk ((W.alloc (.cells #[.int .u64 (r:Int),.int .u64 (d:Int),.int .u64 (j:Int),.int .u64 (b0:Int)] 24)).alloc (.cells #[.int .u32 (n0:Int),.int .u32 (n1:Int)] 77)) W.heap.size 24 #[.int .u64 (r:Int),.int .u64 (d:Int),.int .u64 (j:Int),.int .u64 (b0:Int)]):=Lib.hid ((Blk.new W 24 #[.int .u64 (r:Int),.int .u64 (d:Int),.int .u64 (j:Int),.int .u64 (b0:Int)]).alloc _)
 have BN1:Hid (Blk ((W.alloc (.cells #[.int .u64 (r:Int),.int .u64 (d:Int),.int .u64 (j:Int),.int .u64 (b0:Int)] 24)).alloc (.cells #[.int .u32 (n0:Int),.int .u32 (n1:Int)] 77)) (W.heap.size + 1) 77 #[.int .u32 (n0:Int),.int .u32 (n1:Int)]):=Lib.hid (Blk.new1 _ _ _ _)
 have HP:=Lib.hid hp
 have HOn:=Lib.hid hon
 have b0c:=BX1.out.cell (i:=0) (v:=.int .u64 (r:Int)) rfl
 have b1c:=BX1.out.cell (i:=1) (v:=.int .u64 (d:Int)) rfl
 have b2c:=BX1.out.cell (i:=2) (v:=.int .u64 (j:Int)) rfl
 have b3c:=BX1.out.cell (i:=3) (v:=.int .u64 (b0:Int)) rfl
 have n0c:=BN1.out.cell (i:=0) (v:=.int .u32 (n0:Int)) rfl
 have n1c:=BN1.out.cell (i:=1) (v:=.int .u32 (n1:Int)) rfl
 clear hi hp hon
 go_enter Try.func6,Try.ntmps6
 go_wp2_with fail
 generalize hz1:W.heap.size + 1=zn at *
 generalize hz:W.heap.size=z at *
 have HZ:=Lib.hid hz
 clear hz hz1
 generalize (W.alloc (.cells #[.int .u64 (r:Int),.int .u64 (d:Int),.int .u64 (j:Int),.int .u64 (b0:Int)] 24)).alloc (.cells #[.int .u32 (n0:Int),.int .u32 (n1:Int)] 77)=W1 at *
 replace HBel:Hid (Below W.heap.size W W1):=Lib.hid (by rw [HZ.out];exact HBel.out)
 refine (fits21_any l v cap ab off W1 HI.out).mono ?_
 rintro e w ⟨rfl,hw⟩
 rw [hw]
 clear hw
 go_wp2_with fail
 refine (rf_Right r d j b0 _).mono ?_
 rintro e w2 ⟨rfl,hb⟩
 have HB2:=Lib.hid hb
 have BX2:=Lib.hid (BX1.out.keep hb)
 have BN2:=Lib.hid (BN1.out.keep hb)
 clear hb b0c b1c b2c b3c n0c n1c
 have b0c:=BX2.out.cell (i:=0) (v:=.int .u64 (r:Int)) rfl
 have b1c:=BX2.out.cell (i:=1) (v:=.int .u64 (d:Int)) rfl
 have b2c:=BX2.out.cell (i:=2) (v:=.int .u64 (j:Int)) rfl
 have b3c:=BX2.out.cell (i:=3) (v:=.int .u64 (b0:Int)) rfl
 have n0c:=BN2.out.cell (i:=0) (v:=.int .u32 (n0:Int)) rfl
 have n1c:=BN2.out.cell (i:=1) (v:=.int .u32 (n1:Int)) rfl
 go_wp2_with fail
 refine (small21_any r d j b0 l v cap ab off w2 (HI.out.keep HB2.out)).mono ?_
 rintro e w3 ⟨rfl,hb⟩
 have HB3:Hid (Below W1.heap.size W1 w3):=Lib.hid (bel_to HB2.out hb HB2.out.size)
 have BX3:=Lib.hid (BX2.out.keep hb)
 have BN3:=Lib.hid (BN2.out.keep hb)
 clear hb HB2 BX2 BN2 b0c b1c b2c b3c n0c n1c
 have b0c:=BX3.out.cell (i:=0) (v:=.int .u64 (r:Int)) rfl
 have b1c:=BX3.out.cell (i:=1) (v:=.int .u64 (d:Int)) rfl
 have b2c:=BX3.out.cell (i:=2) (v:=.int .u64 (j:Int)) rfl
 have b3c:=BX3.out.cell (i:=3) (v:=.int .u64 (b0:Int)) rfl
 have n0c:=BN3.out.cell (i:=0) (v:=.int .u32 (n0:Int)) rfl
 have n1c:=BN3.out.cell (i:=1) (v:=.int .u32 (n1:Int)) rfl
 cases hF:fits21 l with
 | false=>
   go_wp2_with fail
   refine (alive21 _).mono ?_
   rintro e w9 ⟨rfl,hb⟩
   have HB9:=Lib.hid (HBel.out.trans ((bel_to HB3.out hb HB3.out.size).mono HBel.out.size))
   clear hb
   go_wp2_with fail
   go_ret
   exact ⟨rfl,HB9.out⟩
 | true=>
 cases hR:rightP r d j b0 with
 | false=>
   go_wp2_with fail
   refine (alive21 _).mono ?_
   rintro e w9 ⟨rfl,hb⟩
   have HB9:=Lib.hid (HBel.out.trans ((bel_to HB3.out hb HB3.out.size).mono HBel.out.size))
   clear hb
   go_wp2_with fail
   go_ret
   exact ⟨rfl,HB9.out⟩
 | true=>
 cases hS:small21 r l with
 | false=>
   go_wp2_with fail
   refine (alive21 _).mono ?_
   rintro e w9 ⟨rfl,hb⟩
   have HB9:=Lib.hid (HBel.out.trans ((bel_to HB3.out hb HB3.out.size).mono HBel.out.size))
   clear hb
   go_wp2_with fail
   go_ret
   exact ⟨rfl,HB9.out⟩
 | true=>
 by_cases hn0:n0≤1073741824
 case neg=>
  have d4:decide ((1073741824:Int) < (n0:Int))=true:=decide_eq_true (by omega)
  have d4':decide (1073741824 < n0)=true:=decide_eq_true (by omega)
  clear hn0
  go_wp2_with fail
  refine (alive21 _).mono ?_
  rintro e w9 ⟨rfl,hb⟩
  have HB9:=Lib.hid (HBel.out.trans ((bel_to HB3.out hb HB3.out.size).mono HBel.out.size))
  clear hb
  go_wp2_with fail
  go_ret
  exact ⟨rfl,HB9.out⟩
 have d4:decide ((1073741824:Int) < (n0:Int))=false:=decide_eq_false (by omega)
 have d4':decide (1073741824 < n0)=false:=decide_eq_false (by omega)
 have HN0:=Lib.hid hn0
 clear hn0
 by_cases hn1:n1≤1073741824
 case neg=>
  have d5:decide ((1073741824:Int) < (n1:Int))=true:=decide_eq_true (by omega)
  have d5':decide (1073741824 < n1)=true:=decide_eq_true (by omega)
  clear hn1
  go_wp2_with fail
  refine (alive21 _).mono ?_
  rintro e w9 ⟨rfl,hb⟩
  have HB9:=Lib.hid (HBel.out.trans ((bel_to HB3.out hb HB3.out.size).mono HBel.out.size))
  clear hb
  go_wp2_with fail
  go_ret
  exact ⟨rfl,HB9.out⟩
 have d5:decide ((1073741824:Int) < (n1:Int))=false:=decide_eq_false (by omega)
 have d5':decide (1073741824 < n1)=false:=decide_eq_false (by omega)
 have HN1:=Lib.hid hn1
 clear hn1
 have HFit:=Lib.hid (fit_of hF)
 have HSml:=Lib.hid (small_of hS)
 have HRt:=Lib.hid (right_of hR)
 have HNw:=Lib.hid (fun w=>oe_New r d j b0 w hR)
 have HF60:=(fit_of hF).1
 clear hF hS hR
 go_wp2_with fail
 refine (HNw.out _).mono ?_
 rintro e w4 ⟨b,rfl,h0⟩
 have HX:=Lib.hid (h0.out.base HB3.out)
 have BX4:=Lib.hid (BX3.out.keep h0.out.bel)
 clear h0 HB3 BX3 b0c b1c b2c b3c n0c n1c d4 d4' d5 d5'
 have b0c:=BX4.out.cell (i:=0) (v:=.int .u64 (r:Int)) rfl
 have b1c:=BX4.out.cell (i:=1) (v:=.int .u64 (d:Int)) rfl
 have b2c:=BX4.out.cell (i:=2) (v:=.int .u64 (j:Int)) rfl
 have b3c:=BX4.out.cell (i:=3) (v:=.int .u64 (b0:Int)) rfl
 go_wp2_with fail
 refine (HNw.out _).mono ?_
 rintro e w5 ⟨c,rfl,h0⟩
 have H0:=Lib.hid (two_New HX.out h0.out)
 clear h0 HX BX4 HNw b0c b1c b2c b3c
 go_wp2_with fail
 go_loopw [14,15] (fun fv i wr=>∃(k f:Nat) (s:LS),fv=.int .i64 (f:Int)∧i=.int .i64 (k:Int)∧k≤l.length∧Hid (LS.Sm r s f k)∧s.q.room=b0∧(k=0→s.q.someQ=false)∧Hid (TwoE W1 b c s s wr)) (fun _ i _=>l.length - (intOf i).toNat)
 case atStart=>exact ⟨0,0,_,rfl,rfl,Nat.zero_le _,Lib.hid (LS.Sm.start r d j b0 HP.out.1 HP.out.2.1 HP.out.2.2.1 HP.out.2.2.2),rfl,fun _=>empty_start r d j b0,H0⟩
 case round=>
  obtain ⟨k,f,s,rfl,rfl,hk,HSm,hroom,hemp,H⟩:=hrel
  clear H0
  by_cases hlt:k < l.length
  ·obtain ⟨rfl,hab⟩:=HI.out.2.1 (by omega)
   have hA:=HI.out.2.2 k hlt
   have HM1:=Lib.hid (HFit.out.2 k hlt)
   have HM2:=Lib.hid (HSml.out k hlt)
   have hact:=HSm.out.act (q:=l.getD k default) (by omega) HM2.out HM1.out
   obtain ⟨q,hq⟩:∃q,q=l.getD k default:=⟨_,rfl⟩
   rw [← hq] at hA HM1 HM2 hact
   clear hq hemp
   have HAct:=Lib.hid hact
   have HR:=Lib.hid (fun (b:Nat) (s:LS)=>act_r hA hab (b:=b) (s:=s))
   obtain ⟨a0,a1,a2,a3,a4⟩:=HR.out b s wr (Lib.hid H.out.one)
   have HA:=Lib.hid hA
   have i0:(0:Int)≤(k:Int):=by omega
   have i1:(k:Int) < (l.length:Int):=by omega
   have hsf:=HSm.out.few
   have hst:=HSm.out.t
   have hsa:=small_after HM2.out
   clear hact hab hA
   cases ht:q.tick with
   | true=>
     rw [ht] at a0
     rw [LS.act_tick ht,LS.more_tick ht] at HAct
     have hs1:(s.t:Int) + (q.after:Int)=((s.t + q.after:Nat):Int):=by omega
     have hs2:IntKind.u64.wrap ((s.t + q.after:Nat):Int)=((s.t + q.after:Nat):Int):=by rw [IntKind.wrap_u64];omega
     have HT:=Lib.hid (two_Tick (W:=W1) (bx:=b) (by_:=c) (s:=s) (t:=s) (now:=s.t + q.after) (waste:=q.waste) (HSm.out.ok.more (by omega)) (Nat.le_add_right _ _) (by omega) HA.out.b3 HA.out.s4)
     have HT2:=Lib.hid (fun t=>two_Tick (W:=W1) (bx:=c) (by_:=b) (s:=s) (t:=t) (now:=s.t + q.after) (waste:=q.waste) (HSm.out.ok.more (by omega)) (Nat.le_add_right _ _) (by omega) HA.out.b3 HA.out.s4)
     have ra:∀w,Hid (TwoE W1 b c s s w)→w.cell? ⟨ab,off + k * 5 + 2,none⟩=some (.int .u64 (q.after:Int)):=fun w h=>(HR.out b s w (Lib.hid h.out.one)).2.2.1
     have rb:∀w,Hid (TwoE W1 b c s s w)→w.cell? ⟨ab,off + k * 5 + 3,none⟩=some (.int .u64 (q.waste:Int)):=fun w h=>(HR.out b s w (Lib.hid h.out.one)).2.2.2.1
     have rc:∀w,Hid (TwoE W1 b c s s w)→w.cell? ⟨ab,off + k * 5 + 4,none⟩=some (.slice q.p2 q.choices.length q.c2):=fun w h=>(HR.out b s w (Lib.hid h.out.one)).2.2.2.2
     have M0:Hid (TwoE W1 b c s s wr.drew):=Lib.hid (H.out.to ((Drawn.drew _).below _))
     clear hsa hst hsf
     generalize s.t + q.after=tn at *
     go_wp2_with fail
     refine wp_region_chain (S:=(fun w'=>Hid (TwoE W1 b c s s w'))) 19 (by kernel_rfl) (by kernel_rfl) (by kernel_rfl) M0 ?_
     generalize wr.drew=wd at *
     simp only [List.size_toArray,List.length_cons,List.length_nil,Nat.reduceAdd,Array.replicate_succ,Array.replicate_zero,List.push_toArray,List.nil_append,List.cons_append]
     refine Chain.take (i:=0) (oi:=⟨some 87,_,_,_,_,_⟩) (v:=?v1) rfl (by kernel_rfl) (by kernel_rfl) (Or.inl ⟨by rfl,?y1⟩) ?rest1
     case y1=>intro w hSw;clear hSw;go_simp;(try with_reducible rfl)
     simp only [Act.put,List.setIfInBounds_toArray,List.set_cons_zero,List.set_cons_succ]
     refine Chain.take (i:=1) (oi:=⟨some 88,_,_,_,_,_⟩) (v:=?v2) rfl (by kernel_rfl) (by kernel_rfl) (Or.inl ⟨by rfl,?y2⟩) ?rest2
     case y2=>intro w hSw;clear hSw;go_simp;(try with_reducible rfl)
     simp only [Act.put,List.setIfInBounds_toArray,List.set_cons_zero,List.set_cons_succ]
     refine' Chain.call (i:=2) (oi:=⟨some 89,_,_,_,_,_⟩) _ _ rfl (by kernel_rfl) (by kernel_rfl) (by rfl) ?he3 (fun w hS=>(oe_Time W1 b s w hS.out.one).mono fun e w' q=>And.intro q.1 (q.2▸hS)) ?rest3
     case he3=>intro w;go_simp
     simp only [Act.put,List.setIfInBounds_toArray,List.set_cons_zero,List.set_cons_succ]
     refine Chain.take (i:=3) (oi:=⟨some 90,_,_,_,_,_⟩) (v:=?v4) rfl (by kernel_rfl) (by kernel_rfl) (Or.inl ⟨by rfl,?y4⟩) ?rest4
     case y4=>intro w hSw;clear hSw;go_simp;(try with_reducible rfl)
     simp only [Act.put,List.setIfInBounds_toArray,List.set_cons_zero,List.set_cons_succ]
     refine Chain.take (i:=4) (oi:=⟨some 91,_,_,_,_,_⟩) (v:=?v5) rfl (by kernel_rfl) (by kernel_rfl) (Or.inl ⟨by rfl,?y5⟩) ?rest5
     case y5=>intro w hSw;clear hSw;go_simp;(try with_reducible rfl)
     simp only [Act.put,List.setIfInBounds_toArray,List.set_cons_zero,List.set_cons_succ]
     refine Chain.take (i:=5) (oi:=⟨some 92,_,_,_,_,_⟩) (v:=?v6) rfl (by kernel_rfl) (by kernel_rfl) (Or.inl ⟨by rfl,?y6⟩) ?rest6
     case y6=>intro w hSw;clear hSw;go_simp;(try with_reducible rfl)
     simp only [Act.put,List.setIfInBounds_toArray,List.set_cons_zero,List.set_cons_succ]
     refine Chain.take (i:=6) (oi:=⟨some 93,_,_,_,_,_⟩) (v:=?v7) rfl (by kernel_rfl) (by kernel_rfl) (Or.inl ⟨by rfl,?y7⟩) ?rest7
     case y7=>intro w hSw;clear hSw;go_simp;(try with_reducible rfl)
     simp only [Act.put,List.setIfInBounds_toArray,List.set_cons_zero,List.set_cons_succ]
     refine Chain.take (i:=7) (oi:=⟨some 94,_,_,_,_,_⟩) (v:=?v8) rfl (by kernel_rfl) (by kernel_rfl) (Or.inl ⟨by rfl,?y8⟩) ?rest8
     case y8=>intro w hSw;go_simp;(try with_reducible rfl)
     simp only [Act.put,List.setIfInBounds_toArray,List.set_cons_zero,List.set_cons_succ]
     refine Chain.take (i:=8) (oi:=⟨some 95,_,_,_,_,_⟩) (v:=?v9) rfl (by kernel_rfl) (by kernel_rfl) (Or.inl ⟨by rfl,?y9⟩) ?rest9
     case y9=>intro w hSw;clear hSw;go_simp;(try with_reducible rfl)
     simp only [Act.put,List.setIfInBounds_toArray,List.set_cons_zero,List.set_cons_succ]
     refine Chain.take (i:=9) (oi:=⟨some 96,_,_,_,_,_⟩) (v:=?v10) rfl (by kernel_rfl) (by kernel_rfl) (Or.inl ⟨by rfl,?y10⟩) ?rest10
     case y10=>intro w hSw;clear hSw;go_simp;(try with_reducible rfl)
     simp only [Act.put,List.setIfInBounds_toArray,List.set_cons_zero,List.set_cons_succ]
     refine Chain.take (i:=10) (oi:=⟨some 97,_,_,_,_,_⟩) (v:=?v11) rfl (by kernel_rfl) (by kernel_rfl) (Or.inl ⟨by rfl,?y11⟩) ?rest11
     case y11=>intro w hSw;clear hSw;go_simp;(try with_reducible rfl)
     simp only [Act.put,List.setIfInBounds_toArray,List.set_cons_zero,List.set_cons_succ]
     refine Chain.take (i:=11) (oi:=⟨some 98,_,_,_,_,_⟩) (v:=?v12) rfl (by kernel_rfl) (by kernel_rfl) (Or.inl ⟨by rfl,?y12⟩) ?rest12
     case y12=>intro w hSw;clear hSw;go_simp;(try with_reducible rfl)
     simp only [Act.put,List.setIfInBounds_toArray,List.set_cons_zero,List.set_cons_succ]
     refine Chain.take (i:=12) (oi:=⟨some 99,_,_,_,_,_⟩) (v:=?v13) rfl (by kernel_rfl) (by kernel_rfl) (Or.inl ⟨by rfl,?y13⟩) ?rest13
     case y13=>intro w hSw;clear hSw;go_simp;(try with_reducible rfl)
     simp only [Act.put,List.setIfInBounds_toArray,List.set_cons_zero,List.set_cons_succ]
     refine Chain.take (i:=13) (oi:=⟨some 100,_,_,_,_,_⟩) (v:=?v14) rfl (by kernel_rfl) (by kernel_rfl) (Or.inl ⟨by rfl,?y14⟩) ?rest14
     case y14=>intro w hSw;go_simp;(try with_reducible rfl)
     simp only [Act.put,List.setIfInBounds_toArray,List.set_cons_zero,List.set_cons_succ]
     refine Chain.take (i:=14) (oi:=⟨some 101,_,_,_,_,_⟩) (v:=?v15) rfl (by kernel_rfl) (by kernel_rfl) (Or.inl ⟨by rfl,?y15⟩) ?rest15
     case y15=>intro w hSw;clear hSw;go_simp;(try with_reducible rfl)
     simp only [Act.put,List.setIfInBounds_toArray,List.set_cons_zero,List.set_cons_succ]
     refine Chain.take (i:=15) (oi:=⟨some 102,_,_,_,_,_⟩) (v:=?v16) rfl (by kernel_rfl) (by kernel_rfl) (Or.inl ⟨by rfl,?y16⟩) ?rest16
     case y16=>intro w hSw;clear hSw;go_simp;(try with_reducible rfl)
     simp only [Act.put,List.setIfInBounds_toArray,List.set_cons_zero,List.set_cons_succ]
     refine Chain.take (i:=16) (oi:=⟨some 103,_,_,_,_,_⟩) (v:=?v17) rfl (by kernel_rfl) (by kernel_rfl) (Or.inl ⟨by rfl,?y17⟩) ?rest17
     case y17=>intro w hSw;clear hSw;go_simp;(try with_reducible rfl)
     simp only [Act.put,List.setIfInBounds_toArray,List.set_cons_zero,List.set_cons_succ]
     refine Chain.take (i:=17) (oi:=⟨some 104,_,_,_,_,_⟩) (v:=?v18) rfl (by kernel_rfl) (by kernel_rfl) (Or.inl ⟨by rfl,?y18⟩) ?rest18
     case y18=>intro w hSw;clear hSw;go_simp;(try with_reducible rfl)
     simp only [Act.put,List.setIfInBounds_toArray,List.set_cons_zero,List.set_cons_succ]
     refine Chain.take (i:=18) (oi:=⟨some 105,_,_,_,_,_⟩) (v:=?v19) rfl (by kernel_rfl) (by kernel_rfl) (Or.inl ⟨by rfl,?y19⟩) ?rest19
     case y19=>intro w hSw;go_simp;(try with_reducible rfl)
     simp only [Act.put,List.setIfInBounds_toArray,List.set_cons_zero,List.set_cons_succ]
     refine Chain.last (by kernel_rfl) (fun w hSw=>?_)
     refine wpAnyH_ready (rs:=[19]) (by kernel_rfl) (by simp) ?_
     refine AllReadyH.cons (o:=⟨some 106,_,_,_,_,_⟩) rfl (fun K hK=>?_) AllReadyH.nil
     go_simp
     refine (HT.out _ hSw.out).mono ?_
     rintro e w2 ⟨v,rfl,M2,_⟩
     clear hSw M0 HT ra rb rc
     go_wp2_with fail
     refine hK.out _ _ trivial (fun _=>?_)
     clear hK
     try simp only [List.setIfInBounds_toArray,List.set_cons_zero,List.set_cons_succ]
     refine wpAnyH_done (by kernel_rfl) ?_ _
     skip
     obtain ⟨s2,hs2e⟩:∃s2,s2=s.tick tn q.waste q.choices:=⟨_,rfl⟩
     rw [← hs2e] at M2 HAct
     have HT:=Lib.hid (HT2.out s2)
     rw [← hs2e] at HT
     have ra:∀w,Hid (TwoE W1 c b s s2 w)→w.cell? ⟨ab,off + k * 5 + 2,none⟩=some (.int .u64 (q.after:Int)):=fun w h=>(HR.out c s w (Lib.hid h.out.one)).2.2.1
     have rb:∀w,Hid (TwoE W1 c b s s2 w)→w.cell? ⟨ab,off + k * 5 + 3,none⟩=some (.int .u64 (q.waste:Int)):=fun w h=>(HR.out c s w (Lib.hid h.out.one)).2.2.2.1
     have rc:∀w,Hid (TwoE W1 c b s s2 w)→w.cell? ⟨ab,off + k * 5 + 4,none⟩=some (.slice q.p2 q.choices.length q.c2):=fun w h=>(HR.out c s w (Lib.hid h.out.one)).2.2.2.2
     have M3:Hid (TwoE W1 c b s s2 w2.drew):=Lib.hid (M2.out.flip.to ((Drawn.drew _).below _))
     clear hs2e M2 HT2
     go_wp2_with fail
     refine wp_region_chain (S:=(fun w'=>Hid (TwoE W1 c b s s2 w'))) 19 (by kernel_rfl) (by kernel_rfl) (by kernel_rfl) M3 ?_
     generalize w2.drew=wd at *
     simp only [List.size_toArray,List.length_cons,List.length_nil,Nat.reduceAdd,Array.replicate_succ,Array.replicate_zero,List.push_toArray,List.nil_append,List.cons_append]
     refine Chain.take (i:=0) (oi:=⟨some 107,_,_,_,_,_⟩) (v:=?v20) rfl (by kernel_rfl) (by kernel_rfl) (Or.inl ⟨by rfl,?y20⟩) ?rest20
     case y20=>intro w hSw;clear hSw;go_simp;(try with_reducible rfl)
     simp only [Act.put,List.setIfInBounds_toArray,List.set_cons_zero,List.set_cons_succ]
     refine Chain.take (i:=1) (oi:=⟨some 108,_,_,_,_,_⟩) (v:=?v21) rfl (by kernel_rfl) (by kernel_rfl) (Or.inl ⟨by rfl,?y21⟩) ?rest21
     case y21=>intro w hSw;clear hSw;go_simp;(try with_reducible rfl)
     simp only [Act.put,List.setIfInBounds_toArray,List.set_cons_zero,List.set_cons_succ]
     refine' Chain.call (i:=2) (oi:=⟨some 109,_,_,_,_,_⟩) _ _ rfl (by kernel_rfl) (by kernel_rfl) (by rfl) ?he22 (fun w hS=>(oe_Time W1 c s w hS.out.one).mono fun e w' q=>And.intro q.1 (q.2▸hS)) ?rest22
     case he22=>intro w;go_simp
     simp only [Act.put,List.setIfInBounds_toArray,List.set_cons_zero,List.set_cons_succ]
     refine Chain.take (i:=3) (oi:=⟨some 110,_,_,_,_,_⟩) (v:=?v23) rfl (by kernel_rfl) (by kernel_rfl) (Or.inl ⟨by rfl,?y23⟩) ?rest23
     case y23=>intro w hSw;clear hSw;go_simp;(try with_reducible rfl)
     simp only [Act.put,List.setIfInBounds_toArray,List.set_cons_zero,List.set_cons_succ]
     refine Chain.take (i:=4) (oi:=⟨some 111,_,_,_,_,_⟩) (v:=?v24) rfl (by kernel_rfl) (by kernel_rfl) (Or.inl ⟨by rfl,?y24⟩) ?rest24
     case y24=>intro w hSw;clear hSw;go_simp;(try with_reducible rfl)
     simp only [Act.put,List.setIfInBounds_toArray,List.set_cons_zero,List.set_cons_succ]
     refine Chain.take (i:=5) (oi:=⟨some 112,_,_,_,_,_⟩) (v:=?v25) rfl (by kernel_rfl) (by kernel_rfl) (Or.inl ⟨by rfl,?y25⟩) ?rest25
     case y25=>intro w hSw;clear hSw;go_simp;(try with_reducible rfl)
     simp only [Act.put,List.setIfInBounds_toArray,List.set_cons_zero,List.set_cons_succ]
     refine Chain.take (i:=6) (oi:=⟨some 113,_,_,_,_,_⟩) (v:=?v26) rfl (by kernel_rfl) (by kernel_rfl) (Or.inl ⟨by rfl,?y26⟩) ?rest26
     case y26=>intro w hSw;clear hSw;go_simp;(try with_reducible rfl)
     simp only [Act.put,List.setIfInBounds_toArray,List.set_cons_zero,List.set_cons_succ]
     refine Chain.take (i:=7) (oi:=⟨some 114,_,_,_,_,_⟩) (v:=?v27) rfl (by kernel_rfl) (by kernel_rfl) (Or.inl ⟨by rfl,?y27⟩) ?rest27
     case y27=>intro w hSw;go_simp;(try with_reducible rfl)
     simp only [Act.put,List.setIfInBounds_toArray,List.set_cons_zero,List.set_cons_succ]
     refine Chain.take (i:=8) (oi:=⟨some 115,_,_,_,_,_⟩) (v:=?v28) rfl (by kernel_rfl) (by kernel_rfl) (Or.inl ⟨by rfl,?y28⟩) ?rest28
     case y28=>intro w hSw;clear hSw;go_simp;(try with_reducible rfl)
     simp only [Act.put,List.setIfInBounds_toArray,List.set_cons_zero,List.set_cons_succ]
     refine Chain.take (i:=9) (oi:=⟨some 116,_,_,_,_,_⟩) (v:=?v29) rfl (by kernel_rfl) (by kernel_rfl) (Or.inl ⟨by rfl,?y29⟩) ?rest29
     case y29=>intro w hSw;clear hSw;go_simp;(try with_reducible rfl)
     simp only [Act.put,List.setIfInBounds_toArray,List.set_cons_zero,List.set_cons_succ]
     refine Chain.take (i:=10) (oi:=⟨some 117,_,_,_,_,_⟩) (v:=?v30) rfl (by kernel_rfl) (by kernel_rfl) (Or.inl ⟨by rfl,?y30⟩) ?rest30
     case y30=>intro w hSw;clear hSw;go_simp;(try with_reducible rfl)
     simp only [Act.put,List.setIfInBounds_toArray,List.set_cons_zero,List.set_cons_succ]
     refine Chain.take (i:=11) (oi:=⟨some 118,_,_,_,_,_⟩) (v:=?v31) rfl (by kernel_rfl) (by kernel_rfl) (Or.inl ⟨by rfl,?y31⟩) ?rest31
     case y31=>intro w hSw;clear hSw;go_simp;(try with_reducible rfl)
     simp only [Act.put,List.setIfInBounds_toArray,List.set_cons_zero,List.set_cons_succ]
     refine Chain.take (i:=12) (oi:=⟨some 119,_,_,_,_,_⟩) (v:=?v32) rfl (by kernel_rfl) (by kernel_rfl) (Or.inl ⟨by rfl,?y32⟩) ?rest32
     case y32=>intro w hSw;clear hSw;go_simp;(try with_reducible rfl)
     simp only [Act.put,List.setIfInBounds_toArray,List.set_cons_zero,List.set_cons_succ]
     refine Chain.take (i:=13) (oi:=⟨some 120,_,_,_,_,_⟩) (v:=?v33) rfl (by kernel_rfl) (by kernel_rfl) (Or.inl ⟨by rfl,?y33⟩) ?rest33
     case y33=>intro w hSw;go_simp;(try with_reducible rfl)
     simp only [Act.put,List.setIfInBounds_toArray,List.set_cons_zero,List.set_cons_succ]
     refine Chain.take (i:=14) (oi:=⟨some 121,_,_,_,_,_⟩) (v:=?v34) rfl (by kernel_rfl) (by kernel_rfl) (Or.inl ⟨by rfl,?y34⟩) ?rest34
     case y34=>intro w hSw;clear hSw;go_simp;(try with_reducible rfl)
     simp only [Act.put,List.setIfInBounds_toArray,List.set_cons_zero,List.set_cons_succ]
     refine Chain.take (i:=15) (oi:=⟨some 122,_,_,_,_,_⟩) (v:=?v35) rfl (by kernel_rfl) (by kernel_rfl) (Or.inl ⟨by rfl,?y35⟩) ?rest35
     case y35=>intro w hSw;clear hSw;go_simp;(try with_reducible rfl)
     simp only [Act.put,List.setIfInBounds_toArray,List.set_cons_zero,List.set_cons_succ]
     refine Chain.take (i:=16) (oi:=⟨some 123,_,_,_,_,_⟩) (v:=?v36) rfl (by kernel_rfl) (by kernel_rfl) (Or.inl ⟨by rfl,?y36⟩) ?rest36
     case y36=>intro w hSw;clear hSw;go_simp;(try with_reducible rfl)
     simp only [Act.put,List.setIfInBounds_toArray,List.set_cons_zero,List.set_cons_succ]
     refine Chain.take (i:=17) (oi:=⟨some 124,_,_,_,_,_⟩) (v:=?v37) rfl (by kernel_rfl) (by kernel_rfl) (Or.inl ⟨by rfl,?y37⟩) ?rest37
     case y37=>intro w hSw;clear hSw;go_simp;(try with_reducible rfl)
     simp only [Act.put,List.setIfInBounds_toArray,List.set_cons_zero,List.set_cons_succ]
     refine Chain.take (i:=18) (oi:=⟨some 125,_,_,_,_,_⟩) (v:=?v38) rfl (by kernel_rfl) (by kernel_rfl) (Or.inl ⟨by rfl,?y38⟩) ?rest38
     case y38=>intro w hSw;go_simp;(try with_reducible rfl)
     simp only [Act.put,List.setIfInBounds_toArray,List.set_cons_zero,List.set_cons_succ]
     refine Chain.last (by kernel_rfl) (fun w hSw=>?_)
     refine wpAnyH_ready (rs:=[19]) (by kernel_rfl) (by simp) ?_
     refine AllReadyH.cons (o:=⟨some 126,_,_,_,_,_⟩) rfl (fun K hK=>?_) AllReadyH.nil
     go_simp
     refine (HT.out _ hSw.out).mono ?_
     rintro e w4 ⟨v,rfl,M4,_⟩
     clear hSw M3 HT ra rb rc
     go_wp2_with fail
     refine hK.out _ _ trivial (fun _=>?_)
     clear hK
     try simp only [List.setIfInBounds_toArray,List.set_cons_zero,List.set_cons_succ]
     refine wpAnyH_done (by kernel_rfl) ?_ _
     skip
     go_wp2_with fail
     go_roundw
     case rel=>exact ⟨k + 1,f,s2,rfl,by go_num,by omega,Lib.hid HAct.out.1,HAct.out.2.2.2.trans hroom,fun h=>absurd h (by omega),Lib.hid M4.out.flip⟩
     case measure=>simp [intOf];omega
   | false=>
     rw [ht] at a0
     rw [LS.act_send ht,LS.more_send ht] at HAct
     have hfs:=fit_sizes HM1.out
     have HPk:=Lib.hid (oe_packets (W:=W1) (b:=b) (s:=s) (q:=q) f HA.out.s1 hfs (by omega))
     have HSl:=Lib.hid (fun (ao:Option Addr) (w:World) (h1:Below wr.heap.size wr w) h2 h3=>H.out.slice (ao:=ao) (l:=pkts f q.sizes) h1 h2 h3)
     have HS1:=Lib.hid (fun (ao:Option Addr) (cap:Nat)=>TwoS.send (W:=W1) (bx:=b) (by_:=c) (s:=s) (t:=s) (ao:=ao) (l:=pkts f q.sizes) (N:=f) (n:=q.sizes.length) (cap:=cap) (pkts_len _ _) HSm.out.ok (pkts_size (fun x hx=>HA.out.s1.mx x hx)) (by rw [pkts_len];omega))
     have HS2:=Lib.hid (fun (t:LS) (ao:Option Addr) (cap:Nat)=>TwoS.send (W:=W1) (bx:=c) (by_:=b) (s:=s) (t:=t) (ao:=ao) (l:=pkts f q.sizes) (N:=f) (n:=q.sizes.length) (cap:=cap) (pkts_len _ _) HSm.out.ok (pkts_size (fun x hx=>HA.out.s1.mx x hx)) (by rw [pkts_len];omega))
     have hs1:(f:Int) + (q.sizes.length:Int)=((f + q.sizes.length:Nat):Int):=by omega
     have hs2:IntKind.i64.wrap ((f + q.sizes.length:Nat):Int)=((f + q.sizes.length:Nat):Int):=by rw [IntKind.wrap_i64];omega
     generalize s.kept (pkts f q.sizes)=kp at *
     generalize s.sends (pkts f q.sizes)=s2 at *
     generalize pkts f q.sizes=pk at *
     generalize f + q.sizes.length=f2 at *
     clear hsa hst hsf hfs
     go_wp2_with fail
     refine (HPk.out _ H.out.one).mono ?_
     rintro e w5 ⟨ao,cp,rfl,hi,hg,hb⟩
     have HT0:=Lib.hid (HSl.out ao w5 hb.out hi.out hg.out)
     clear hi hg hb HPk HSl
     go_wp2_with fail
     refine (HS1.out ao cp w5 HT0.out).mono ?_
     rintro e w6 ⟨rfl,M6⟩
     clear HT0 HS1
     go_wp2_with fail
     refine (HS2.out s2 ao cp w6 M6.out.flip).mono ?_
     rintro e w7 ⟨rfl,M7⟩
     clear M6 HS2
     go_wp2_with fail
     go_roundw
     case rel=>exact ⟨k + 1,f2,s2,rfl,by go_num,by omega,Lib.hid HAct.out.1,HAct.out.2.2.2.trans hroom,fun h=>absurd h (by omega),Lib.hid M7.out.two.flip⟩
     case measure=>simp [intOf];omega
  ·obtain rfl:k=l.length:=by omega
   have HBd:=Lib.hid (HSm.out.bound HF60 hroom)
   have HAl:Hid (LS.Alike (s.tick (s.t + n0 + n1) 0 []) ((s.tick (s.t + n0) 0 []).tick (s.t + n0 + n1) 0 [])):=Lib.hid (by
    have ht:=HBd.out.t
    have hn:=HBd.out.now
    have h0:=HN0.out
    have h1:=HN1.out
    by_cases hl0:l.length=0
    ·exact LS.served_none s f _ _ HBd.out.ok (hemp hl0) (by omega) (by omega) (by omega)
    ·have hr:r≤1048576:=by
      have:=HSml.out 0 (by omega)
      exact (small_after this).2.1
     have he:=HSm.out.eq
     have hm:r * (s.t + n0 + n1)≤1048576 * (1073741824 * 62):=Nat.mul_le_mul hr (by omega)
     have hsp:r * (s.t + n0 + n1)=r * s.t + r * (s.t + n0 + n1 - s.k.t):=by rw [← Nat.mul_add,← hn];congr 1;omega
     exact LS.served_two s f r _ _ HBd.out.ok HBd.out.rate (by omega) (by omega) (by omega) (by
      generalize r * (s.t + n0 + n1 - s.k.t)=x at *
      generalize r * (s.t + n0 + n1)=y at *
      generalize r * s.t=u at *
      clear HSml
      omega))
   have HOk:Hid (s.ok 5000):=Lib.hid (HBd.out.ok.more (by have:=HBd.out.f;omega))
   have ht:=HBd.out.t
   have h0:=HN0.out
   have h1:=HN1.out
   have e1:(s.t:Int) + (n0:Int)=((s.t + n0:Nat):Int):=by omega
   have e1w:IntKind.u64.wrap ((s.t + n0:Nat):Int)=((s.t + n0:Nat):Int):=by rw [IntKind.wrap_u64];omega
   have e2:((s.t + n0:Nat):Int) + (n1:Int)=((s.t + n0 + n1:Nat):Int):=by omega
   have e2w:IntKind.u64.wrap ((s.t + n0 + n1:Nat):Int)=((s.t + n0 + n1:Nat):Int):=by rw [IntKind.wrap_u64];omega
   have e3:IntKind.u64.wrap (n0:Int)=(n0:Int):=by rw [IntKind.wrap_u64];omega
   have e4:IntKind.u64.wrap (n1:Int)=(n1:Int):=by rw [IntKind.wrap_u64];omega
   have HLe:Hid (s.t≤s.t + n0∧s.t + n0≤s.t + n0 + n1∧s.t + n0 + n1≤18446744073709551615):=Lib.hid (by omega)
   have rn0:∀w,Hid (TwoE W1 b c s s w)→w.cell? ⟨zn,0,none⟩=some (.int .u32 (n0:Int)):=fun w h=>(BN1.out.keep h.out.bel).cell rfl
   have rn1:∀w,Hid (TwoE W1 b c s s w)→w.cell? ⟨zn,1,none⟩=some (.int .u32 (n1:Int)):=fun w h=>(BN1.out.keep h.out.bel).cell rfl
   have M0:Hid (TwoE W1 b c s s wr.drew):=Lib.hid (H.out.to ((Drawn.drew _).below _))
   clear HSm hroom hemp HFit HSml HBd hk hlt ht h0 h1 H
   have HT1:=Lib.hid (two_Tick (W:=W1) (bx:=c) (by_:=b) (s:=s) (t:=s) (now:=s.t + n0) (waste:=0) (ao:=none) (cap:=0) (cs:=[]) HOk.out HLe.out.1 (Nat.le_trans HLe.out.2.1 HLe.out.2.2) (by omega) (in_nil W1))
   have HO1:=Lib.hid (HOk.out.tick (now:=s.t + n0) (Nat.le_trans HLe.out.2.1 HLe.out.2.2) 0 [])
   have HT2:=Lib.hid (fun t=>two_Tick (W:=W1) (bx:=b) (by_:=c) (s:=s) (t:=t) (now:=s.t + n0 + n1) (waste:=0) (ao:=none) (cap:=0) (cs:=[]) HOk.out (Nat.le_trans HLe.out.1 HLe.out.2.1) HLe.out.2.2 (by omega) (in_nil W1))
   have HT3:=Lib.hid (fun t=>two_Tick (W:=W1) (bx:=c) (by_:=b) (s:=s.tick (s.t + n0) 0 []) (t:=t) (now:=s.t + n0 + n1) (waste:=0) (ao:=none) (cap:=0) (cs:=[]) HO1.out (by have:=(HLe.out.2.1);show (s.tick (s.t + n0) 0 []).t≤_;rw [LS.tick,LS.deliver_t,LS.ahead_t];exact this) HLe.out.2.2 (by omega) (in_nil W1))
   have HO2:=Lib.hid (HO1.out.tick (now:=s.t + n0 + n1) HLe.out.2.2 0 [])
   have HO3:=Lib.hid (HOk.out.tick (now:=s.t + n0 + n1) HLe.out.2.2 0 [])
   clear HLe
   generalize s.t + n0 + n1=tb at *
   generalize s.t + n0=ta at *
   go_wp2_with fail
   refine wp_region_chain (S:=(fun w'=>Hid (TwoE W1 b c s s w'))) 10 (by kernel_rfl) (by kernel_rfl) (by kernel_rfl) M0 ?_
   generalize wr.drew=wd at *
   simp only [List.size_toArray,List.length_cons,List.length_nil,Nat.reduceAdd,Array.replicate_succ,Array.replicate_zero,List.push_toArray,List.nil_append,List.cons_append]
   refine Chain.take (i:=0) (oi:=⟨some 144,_,_,_,_,_⟩) (v:=?v39) rfl (by kernel_rfl) (by kernel_rfl) (Or.inl ⟨by rfl,?y39⟩) ?rest39
   case y39=>intro w hSw;clear hSw;go_simp;(try with_reducible rfl)
   simp only [Act.put,List.setIfInBounds_toArray,List.set_cons_zero,List.set_cons_succ]
   refine' Chain.call (i:=1) (oi:=⟨some 145,_,_,_,_,_⟩) _ _ rfl (by kernel_rfl) (by kernel_rfl) (by rfl) ?he40 (fun w hS=>(oe_Time W1 b s w hS.out.one).mono fun e w' q=>And.intro q.1 (q.2▸hS)) ?rest40
   case he40=>intro w;go_simp
   simp only [Act.put,List.setIfInBounds_toArray,List.set_cons_zero,List.set_cons_succ]
   refine Chain.take (i:=2) (oi:=⟨some 146,_,_,_,_,_⟩) (v:=?v41) rfl (by kernel_rfl) (by kernel_rfl) (Or.inl ⟨by rfl,?y41⟩) ?rest41
   case y41=>intro w hSw;clear hSw;go_simp;(try with_reducible rfl)
   simp only [Act.put,List.setIfInBounds_toArray,List.set_cons_zero,List.set_cons_succ]
   refine Chain.take (i:=3) (oi:=⟨some 147,_,_,_,_,_⟩) (v:=?v42) rfl (by kernel_rfl) (by kernel_rfl) (Or.inl ⟨by rfl,?y42⟩) ?rest42
   case y42=>intro w hSw;go_simp;(try with_reducible rfl)
   simp only [Act.put,List.setIfInBounds_toArray,List.set_cons_zero,List.set_cons_succ]
   refine Chain.take (i:=4) (oi:=⟨some 148,_,_,_,_,_⟩) (v:=?v43) rfl (by kernel_rfl) (by kernel_rfl) (Or.inl ⟨by rfl,?y43⟩) ?rest43
   case y43=>intro w hSw;clear hSw;go_simp;(try with_reducible rfl)
   simp only [Act.put,List.setIfInBounds_toArray,List.set_cons_zero,List.set_cons_succ]
   refine Chain.take (i:=5) (oi:=⟨some 149,_,_,_,_,_⟩) (v:=?v44) rfl (by kernel_rfl) (by kernel_rfl) (Or.inl ⟨by rfl,?y44⟩) ?rest44
   case y44=>intro w hSw;clear hSw;go_simp;(try with_reducible rfl)
   simp only [Act.put,List.setIfInBounds_toArray,List.set_cons_zero,List.set_cons_succ]
   refine Chain.take (i:=6) (oi:=⟨some 150,_,_,_,_,_⟩) (v:=?v45) rfl (by kernel_rfl) (by kernel_rfl) (Or.inl ⟨by rfl,?y45⟩) ?rest45
   case y45=>intro w hSw;clear hSw;go_simp;(try with_reducible rfl)
   simp only [Act.put,List.setIfInBounds_toArray,List.set_cons_zero,List.set_cons_succ]
   refine Chain.take (i:=7) (oi:=⟨some 151,_,_,_,_,_⟩) (v:=?v46) rfl (by kernel_rfl) (by kernel_rfl) (Or.inl ⟨by rfl,?y46⟩) ?rest46
   case y46=>intro w hSw;go_simp;(try with_reducible rfl)
   simp only [Act.put,List.setIfInBounds_toArray,List.set_cons_zero,List.set_cons_succ]
   refine Chain.take (i:=8) (oi:=⟨some 152,_,_,_,_,_⟩) (v:=?v47) rfl (by kernel_rfl) (by kernel_rfl) (Or.inl ⟨by rfl,?y47⟩) ?rest47
   case y47=>intro w hSw;clear hSw;go_simp;(try with_reducible rfl)
   simp only [Act.put,List.setIfInBounds_toArray,List.set_cons_zero,List.set_cons_succ]
   refine Chain.take (i:=9) (oi:=⟨some 153,_,_,_,_,_⟩) (v:=?v48) rfl (by kernel_rfl) (by kernel_rfl) (Or.inl ⟨by rfl,?y48⟩) ?rest48
   case y48=>intro w hSw;clear hSw;go_simp;(try with_reducible rfl)
   simp only [Act.put,List.setIfInBounds_toArray,List.set_cons_zero,List.set_cons_succ]
   refine Chain.last (by kernel_rfl) (fun w hSw=>?_)
   refine wpAnyH_ready (rs:=[10]) (by kernel_rfl) (by simp) ?_
   refine AllReadyH.cons (o:=⟨some 17,_,_,_,_,_⟩) rfl (fun K hK=>?_) AllReadyH.nil
   have M1:=hSw
   go_simp
   refine hK.out _ _ trivial (fun _=>?_)
   clear hK
   try simp only [List.setIfInBounds_toArray,List.set_cons_zero,List.set_cons_succ]
   refine wpAnyH_done (by kernel_rfl) ?_ _
   skip
   go_wp2_with fail
   have M2:Hid (TwoE W1 c b s s w.drew):=Lib.hid (M1.out.flip.to ((Drawn.drew _).below _))
   have rn0:∀w,Hid (TwoE W1 c b s s w)→w.cell? ⟨zn,0,none⟩=some (.int .u32 (n0:Int)):=fun w h=>(BN1.out.keep h.out.bel).cell rfl
   refine wp_region_chain (S:=(fun w'=>Hid (TwoE W1 c b s s w'))) 7 (by kernel_rfl) (by kernel_rfl) (by kernel_rfl) M2 ?_
   generalize w.drew=wd at *
   simp only [List.size_toArray,List.length_cons,List.length_nil,Nat.reduceAdd,Array.replicate_succ,Array.replicate_zero,List.push_toArray,List.nil_append,List.cons_append]
   refine Chain.take (i:=0) (oi:=⟨some 154,_,_,_,_,_⟩) (v:=?v49) rfl (by kernel_rfl) (by kernel_rfl) (Or.inl ⟨by rfl,?y49⟩) ?rest49
   case y49=>intro w hSw;clear hSw;go_simp;(try with_reducible rfl)
   simp only [Act.put,List.setIfInBounds_toArray,List.set_cons_zero,List.set_cons_succ]
   refine Chain.take (i:=1) (oi:=⟨some 155,_,_,_,_,_⟩) (v:=?v50) rfl (by kernel_rfl) (by kernel_rfl) (Or.inl ⟨by rfl,?y50⟩) ?rest50
   case y50=>intro w hSw;clear hSw;go_simp;(try with_reducible rfl)
   simp only [Act.put,List.setIfInBounds_toArray,List.set_cons_zero,List.set_cons_succ]
   refine' Chain.call (i:=2) (oi:=⟨some 156,_,_,_,_,_⟩) _ _ rfl (by kernel_rfl) (by kernel_rfl) (by rfl) ?he51 (fun w hS=>(oe_Time W1 c s w hS.out.one).mono fun e w' q=>And.intro q.1 (q.2▸hS)) ?rest51
   case he51=>intro w;go_simp
   simp only [Act.put,List.setIfInBounds_toArray,List.set_cons_zero,List.set_cons_succ]
   refine Chain.take (i:=3) (oi:=⟨some 157,_,_,_,_,_⟩) (v:=?v52) rfl (by kernel_rfl) (by kernel_rfl) (Or.inl ⟨by rfl,?y52⟩) ?rest52
   case y52=>intro w hSw;clear hSw;go_simp;(try with_reducible rfl)
   simp only [Act.put,List.setIfInBounds_toArray,List.set_cons_zero,List.set_cons_succ]
   refine Chain.take (i:=4) (oi:=⟨some 158,_,_,_,_,_⟩) (v:=?v53) rfl (by kernel_rfl) (by kernel_rfl) (Or.inl ⟨by rfl,?y53⟩) ?rest53
   case y53=>intro w hSw;go_simp;(try with_reducible rfl)
   simp only [Act.put,List.setIfInBounds_toArray,List.set_cons_zero,List.set_cons_succ]
   refine Chain.take (i:=5) (oi:=⟨some 159,_,_,_,_,_⟩) (v:=?v54) rfl (by kernel_rfl) (by kernel_rfl) (Or.inl ⟨by rfl,?y54⟩) ?rest54
   case y54=>intro w hSw;clear hSw;go_simp;(try with_reducible rfl)
   simp only [Act.put,List.setIfInBounds_toArray,List.set_cons_zero,List.set_cons_succ]
   refine Chain.take (i:=6) (oi:=⟨some 160,_,_,_,_,_⟩) (v:=?v55) rfl (by kernel_rfl) (by kernel_rfl) (Or.inl ⟨by rfl,?y55⟩) ?rest55
   case y55=>intro w hSw;clear hSw;go_simp;(try with_reducible rfl)
   simp only [Act.put,List.setIfInBounds_toArray,List.set_cons_zero,List.set_cons_succ]
   refine Chain.last (by kernel_rfl) (fun w hSw=>?_)
   refine wpAnyH_ready (rs:=[7]) (by kernel_rfl) (by simp) ?_
   refine AllReadyH.cons (o:=⟨some 161,_,_,_,_,_⟩) rfl (fun K hK=>?_) AllReadyH.nil
   go_simp
   refine (HT1.out _ hSw.out).mono ?_
   rintro e w4 ⟨v,rfl,M4,_⟩
   clear hSw HT1 rn0
   go_wp2_with fail
   refine hK.out _ _ trivial (fun _=>?_)
   clear hK
   try simp only [List.setIfInBounds_toArray,List.set_cons_zero,List.set_cons_succ]
   refine wpAnyH_done (by kernel_rfl) ?_ _
   skip
   obtain ⟨s2,hs2⟩:∃s2,s2=s.tick ta 0 []:=⟨_,rfl⟩
   rw [← hs2] at M4 HT3 HO2 HAl
   clear hs2 HO1 M1 M0 M2
   go_wp2_with fail
   refine (HT2.out s2 _ M4.out.flip).mono ?_
   rintro e w5 ⟨v5,rfl,M5,_⟩
   clear HT2 M4
   generalize s.tick tb 0 []=s3 at *
   go_wp2_with fail
   refine (HT3.out s3 _ M5.out.flip).mono ?_
   rintro e w6 ⟨v6,rfl,M6,_⟩
   clear HT3 M5
   generalize s2.tick tb 0 []=s4 at *
   go_wp2_with fail
   refine (oe_Count W1 b s3 5000 w6 M6.out.flip.one HO3.out (Nat.le_refl _)).mono ?_
   rintro e w7 ⟨rfl,hb⟩
   have M7:=Lib.hid ((M6.out.to hb).to (al_be w7 (.cells #[.int .u64 (LS.told s3.came:Int),.int .u64 (s3.q.lost:Int),.int .u64 (s3.q.n:Int),.int .u64 (LS.told s3.served:Int),.int .u64 (LS.told (s3.served - s3.deliv):Int),.int .u64 (LS.told s3.deliv:Int)] 70)))
   have BC7:=Lib.hid (Blk.new w7 70 #[.int .u64 (LS.told s3.came:Int),.int .u64 (s3.q.lost:Int),.int .u64 (s3.q.n:Int),.int .u64 (LS.told s3.served:Int),.int .u64 (LS.told (s3.served - s3.deliv):Int),.int .u64 (LS.told s3.deliv:Int)])
   unfold LS.countV
   clear M6 hb
   go_wp2_with fail
   generalize w7.alloc (.cells #[.int .u64 (LS.told s3.came:Int),.int .u64 (s3.q.lost:Int),.int .u64 (s3.q.n:Int),.int .u64 (LS.told s3.served:Int),.int .u64 (LS.told (s3.served - s3.deliv):Int),.int .u64 (LS.told s3.deliv:Int)] 70)=w8 at *
   refine (oe_Count W1 c s4 5000 w8 M7.out.one HO2.out (Nat.le_refl _)).mono ?_
   rintro e w9 ⟨rfl,hb⟩
   have M9:=Lib.hid ((M7.out.to hb).to (al_be w9 (.cells #[.int .u64 (LS.told s4.came:Int),.int .u64 (s4.q.lost:Int),.int .u64 (s4.q.n:Int),.int .u64 (LS.told s4.served:Int),.int .u64 (LS.told (s4.served - s4.deliv):Int),.int .u64 (LS.told s4.deliv:Int)] 70)))
   have BC9:=Lib.hid ((BC7.out.keep hb).keep (al_be w9 (.cells #[.int .u64 (LS.told s4.came:Int),.int .u64 (s4.q.lost:Int),.int .u64 (s4.q.n:Int),.int .u64 (LS.told s4.served:Int),.int .u64 (LS.told (s4.served - s4.deliv):Int),.int .u64 (LS.told s4.deliv:Int)] 70)))
   have BD9:=Lib.hid (Blk.new w9 70 #[.int .u64 (LS.told s4.came:Int),.int .u64 (s4.q.lost:Int),.int .u64 (s4.q.n:Int),.int .u64 (LS.told s4.served:Int),.int .u64 (LS.told (s4.served - s4.deliv):Int),.int .u64 (LS.told s4.deliv:Int)])
   unfold LS.countV
   clear M7 hb BC7
   go_wp2_with fail
   generalize w7.heap.size=z7 at *
   generalize w9.heap.size=z9 at *
   generalize w9.alloc (.cells #[.int .u64 (LS.told s4.came:Int),.int .u64 (s4.q.lost:Int),.int .u64 (s4.q.n:Int),.int .u64 (LS.told s4.served:Int),.int .u64 (LS.told (s4.served - s4.deliv):Int),.int .u64 (LS.told s4.deliv:Int)] 70)=w10 at *
   refine (oe_Tokens W1 b s3 w10 M9.out.flip.one).mono ?_
   rintro e w11 ⟨rfl,hd⟩
   have M11:=Lib.hid (M9.out.to (hd.below _))
   have BC11:=Lib.hid (hd.blk BC9.out)
   have BD11:=Lib.hid (hd.blk BD9.out)
   clear M9 BC9 BD9 hd
   go_wp2_with fail
   refine (oe_Tokens W1 c s4 w11 M11.out.one).mono ?_
   rintro e w12 ⟨rfl,hd⟩
   have M12:=Lib.hid (M11.out.to (hd.below _))
   have BC12:=Lib.hid (hd.blk BC11.out)
   have BD12:=Lib.hid (hd.blk BD11.out)
   clear M11 BC11 BD11 hd
   rw [← HAl.out.n,← HAl.out.w]
   go_wp2_with fail
   refine (alive21 w12).mono ?_
   rintro e w13 ⟨rfl,hb⟩
   have f3:=(BC12.out.keep hb).cell (i:=3) (v:=.int .u64 (LS.told s3.served:Int)) rfl
   have f2:=(BC12.out.keep hb).cell (i:=2) (v:=.int .u64 (s3.q.n:Int)) rfl
   have f1:=(BC12.out.keep hb).cell (i:=1) (v:=.int .u64 (s3.q.lost:Int)) rfl
   have g3:=(BD12.out.keep hb).cell (i:=3) (v:=.int .u64 (LS.told s3.served:Int)) (by rw [HAl.out.served];rfl)
   have g2:=(BD12.out.keep hb).cell (i:=2) (v:=.int .u64 (s3.q.n:Int)) (by rw [HAl.out.q];rfl)
   have g1:=(BD12.out.keep hb).cell (i:=1) (v:=.int .u64 (s3.q.lost:Int)) (by rw [HAl.out.q];rfl)
   have HB13:=Lib.hid (HBel.out.trans ((bel_to M12.out.bel hb M12.out.bel.size).mono HBel.out.size))
   clear hb BC12 BD12 M12 HAl
   go_wp2_with fail
   go_ret
   exact ⟨rfl,HB13.out⟩
end Go.Proofs.Ytgpmnhhcjccofaa
