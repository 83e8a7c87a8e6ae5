/- 1 texts put together: what each one says stands ahead of it. -/
import Derived.Test.YtaffjfajjpgjpaaKLinkPlays07
import Derived.Test.YtaffjfajjpgjpaaKLinkPlays13
set_option linter.unusedVariables false
namespace Go.Proofs.Ytaffjfajjpgjpaa
open Go.RowKit
def totP (l:List Pk):Nat:=(l.map (·.size)).sum
theorem totP_nil:totP []=0:=rfl
theorem totP_cons (p:Pk) (l:List Pk):totP (p :: l)=p.size + totP l:=by simp [totP]
theorem totP_app (l r:List Pk):totP (l ++ r)=totP l + totP r:=by simp [totP]
theorem totP_le {l:List Pk} (h:∀x∈l,x.size≤18446744073709551615):totP l≤18446744073709551615 * l.length:=by
 induction l with
 | nil=>exact Nat.le_refl _
 | cons p t ih=>
   rw [totP_cons,List.length_cons,Nat.mul_succ]
   have:=h p (by simp)
   have:=ih (fun x hx=>h x (by simp [hx]))
   omega
structure QInv (s:QK):Prop where
 ok:s.ok
 n:s.n=totP s.l
 le:s.n≤s.room
theorem QInv.start {r:Nat} (h:r≤18446744073709551615):QInv (QK.start r):=⟨QK.start_ok h,rfl,Nat.zero_le _⟩
theorem QInv.put {s:QK} (h:QInv s) {p:Pk} (hp:p.size≤18446744073709551615):QInv (s.putQ p):=by
 have:=h.ok.room
 have hn:=h.n
 have hl:=h.le
 refine ⟨QK.put_ok h.ok hp,?_,?_⟩
 ·unfold QK.putQ
  split
  ·next c=>
   unfold Pl.subS at c
   unfold QK.addQ Pl.addS
   show min (s.n + p.size) 18446744073709551615=totP (s.l ++ [p])
   rw [totP_app,totP_cons,totP_nil];omega
  ·exact hn
 ·unfold QK.putQ
  split
  ·next c=>unfold Pl.subS at c;unfold QK.addQ Pl.addS;dsimp;omega
  ·exact hl
theorem QInv.shift {s:QK} (h:QInv s):QInv s.shiftQ:=by
 refine ⟨QK.shift_ok h.ok,?_,Nat.le_trans (Pl.subS_le _ _) h.le⟩
 have hn:=h.n
 unfold QK.shiftQ QK.headQ
 show Pl.subS s.n (s.l.getD 0 Itm.z).size=totP (s.l.drop 1)
 cases e:s.l with
 | nil=>rw [e] at hn;unfold Pl.subS;rw [hn];rfl
 | cons x t=>
   rw [e,totP_cons] at hn
   unfold Pl.subS
   show s.n - x.size=totP t
   omega
structure LS where
 rate:Nat
 delay:Nat
 jit:Nat
 buf:Nat
 k:KB
 q:QK
 j:BxS
 t:Nat
 came:Nat
 served:Nat
 deliv:Nat
namespace LS
def start (r d j b:Nat):LS:=⟨r,d,j,b,KB.start r,QK.start b,BxS.start d j,0,0,0,0⟩
def hi (n:Nat):Nat:=n / 18446744073709551616
def lo (n:Nat):Nat:=n % 18446744073709551616
def told (n:Nat):Nat:=min n 18446744073709551615
def withK (s:LS) (k:KB):LS:=⟨s.rate,s.delay,s.jit,s.buf,k,s.q,s.j,s.t,s.came,s.served,s.deliv⟩
def withQ (s:LS) (q:QK):LS:=⟨s.rate,s.delay,s.jit,s.buf,s.k,q,s.j,s.t,s.came,s.served,s.deliv⟩
def withJ (s:LS) (j:BxS):LS:=⟨s.rate,s.delay,s.jit,s.buf,s.k,s.q,j,s.t,s.came,s.served,s.deliv⟩
def withT (s:LS) (t:Nat):LS:=⟨s.rate,s.delay,s.jit,s.buf,s.k,s.q,s.j,t,s.came,s.served,s.deliv⟩
def withC (s:LS) (c:Nat):LS:=⟨s.rate,s.delay,s.jit,s.buf,s.k,s.q,s.j,s.t,c,s.served,s.deliv⟩
def withS (s:LS) (c:Nat):LS:=⟨s.rate,s.delay,s.jit,s.buf,s.k,s.q,s.j,s.t,s.came,c,s.deliv⟩
def withD (s:LS) (c:Nat):LS:=⟨s.rate,s.delay,s.jit,s.buf,s.k,s.q,s.j,s.t,s.came,s.served,c⟩
theorem k_mk {a1:Nat} {a2:Nat} {a3:Nat} {a4:Nat} {ak:KB} {aq:QK} {aj:BxS} {at1:Nat} {ac:Nat} {as1:Nat} {ad:Nat}:(⟨a1,a2,a3,a4,ak,aq,aj,at1,ac,as1,ad⟩:LS).k=ak:=rfl
theorem q_mk {a1:Nat} {a2:Nat} {a3:Nat} {a4:Nat} {ak:KB} {aq:QK} {aj:BxS} {at1:Nat} {ac:Nat} {as1:Nat} {ad:Nat}:(⟨a1,a2,a3,a4,ak,aq,aj,at1,ac,as1,ad⟩:LS).q=aq:=rfl
theorem t_mk {a1:Nat} {a2:Nat} {a3:Nat} {a4:Nat} {ak:KB} {aq:QK} {aj:BxS} {at1:Nat} {ac:Nat} {as1:Nat} {ad:Nat}:(⟨a1,a2,a3,a4,ak,aq,aj,at1,ac,as1,ad⟩:LS).t=at1:=rfl
theorem came_mk {a1:Nat} {a2:Nat} {a3:Nat} {a4:Nat} {ak:KB} {aq:QK} {aj:BxS} {at1:Nat} {ac:Nat} {as1:Nat} {ad:Nat}:(⟨a1,a2,a3,a4,ak,aq,aj,at1,ac,as1,ad⟩:LS).came=ac:=rfl
theorem served_mk {a1:Nat} {a2:Nat} {a3:Nat} {a4:Nat} {ak:KB} {aq:QK} {aj:BxS} {at1:Nat} {ac:Nat} {as1:Nat} {ad:Nat}:(⟨a1,a2,a3,a4,ak,aq,aj,at1,ac,as1,ad⟩:LS).served=as1:=rfl
theorem deliv_mk {a1:Nat} {a2:Nat} {a3:Nat} {a4:Nat} {ak:KB} {aq:QK} {aj:BxS} {at1:Nat} {ac:Nat} {as1:Nat} {ad:Nat}:(⟨a1,a2,a3,a4,ak,aq,aj,at1,ac,as1,ad⟩:LS).deliv=ad:=rfl
def send1 (s:LS) (p:Pk):LS:=⟨s.rate,s.delay,s.jit,s.buf,s.k,s.q.putQ p,s.j,s.t,s.came + p.size,s.served,s.deliv⟩
def sends (s:LS) (l:List Pk):LS:=l.foldl send1 s
def kept (s:LS):List Pk→Nat
 | []=>0
 | p :: t=>(if s.q.putB p then 1 else 0) + kept (s.send1 p) t
def may (s:LS):Bool:=s.q.someQ && s.k.takeB s.q.headQ.size
def serve1 (s:LS) (c:Nat):LS:=⟨s.rate,s.delay,s.jit,s.buf,s.k.takeS s.q.headQ.size,s.q.shiftQ,s.j.putB s.q.headQ s.t c,s.t,s.came,s.served + s.q.headQ.size,s.deliv⟩
def serveN:Nat→LS→List Nat→LS
 | 0,s,_=>s
 | n + 1,s,cs=>if s.may then serveN n (s.serve1 (cs.getD 0 0)) (cs.drop 1) else s
def serve (s:LS) (cs:List Nat):LS:=serveN s.q.l.length s cs
def toT (s:LS) (now:Nat):LS:=⟨s.rate,s.delay,s.jit,s.buf,s.k.toS now,s.q,s.j,now,s.came,s.served,s.deliv⟩
def wasteK (s:LS) (x:Nat):LS:=⟨s.rate,s.delay,s.jit,s.buf,s.k.wasteS x,s.q,s.j,s.t,s.came,s.served,s.deliv⟩
def wasteL (s:LS) (x:Nat):LS:=if s.q.someQ then s else s.wasteK x
def out (s:LS):List Pk:=s.j.told s.t
def deliver (s:LS):LS:=⟨s.rate,s.delay,s.jit,s.buf,s.k,s.q,s.j.outB s.t,s.t,s.came,s.served,s.deliv + totP s.out⟩
def ahead (s:LS) (now waste:Nat) (cs:List Nat):LS:=((s.toT now).serve cs).wasteL waste
def tick (s:LS) (now waste:Nat) (cs:List Nat):LS:=(s.ahead now waste cs).deliver
def tickOut (s:LS) (now waste:Nat) (cs:List Nat):List Pk:=(s.ahead now waste cs).out
theorem send1_k (s:LS) (p:Pk):(s.send1 p).k=s.k:=by unfold send1;exact k_mk
theorem send1_t (s:LS) (p:Pk):(s.send1 p).t=s.t:=by unfold send1;exact t_mk
theorem serve1_k (s:LS) (c:Nat):(s.serve1 c).k=s.k.takeS s.q.headQ.size:=by unfold serve1;exact k_mk
theorem serve1_q (s:LS) (c:Nat):(s.serve1 c).q=s.q.shiftQ:=by unfold serve1;exact q_mk
theorem serve1_t (s:LS) (c:Nat):(s.serve1 c).t=s.t:=by unfold serve1;exact t_mk
theorem serve1_came (s:LS) (c:Nat):(s.serve1 c).came=s.came:=by unfold serve1;exact came_mk
theorem serve1_served (s:LS) (c:Nat):(s.serve1 c).served=s.served + s.q.headQ.size:=by unfold serve1;exact served_mk
theorem serve1_deliv (s:LS) (c:Nat):(s.serve1 c).deliv=s.deliv:=by unfold serve1;exact deliv_mk
theorem toT_t (s:LS) (now:Nat):(s.toT now).t=now:=by unfold toT;exact t_mk
theorem toT_came (s:LS) (now:Nat):(s.toT now).came=s.came:=by unfold toT;exact came_mk
theorem toT_deliv (s:LS) (now:Nat):(s.toT now).deliv=s.deliv:=by unfold toT;exact deliv_mk
theorem wasteK_k (s:LS) (x:Nat):(s.wasteK x).k=s.k.wasteS x:=by unfold wasteK;exact k_mk
theorem wasteK_t (s:LS) (x:Nat):(s.wasteK x).t=s.t:=by unfold wasteK;exact t_mk
theorem wasteK_came (s:LS) (x:Nat):(s.wasteK x).came=s.came:=by unfold wasteK;exact came_mk
theorem wasteK_deliv (s:LS) (x:Nat):(s.wasteK x).deliv=s.deliv:=by unfold wasteK;exact deliv_mk
theorem deliver_came (s:LS):(s.deliver).came=s.came:=by unfold deliver;exact came_mk
theorem deliver_deliv (s:LS):(s.deliver).deliv=s.deliv + totP s.out:=by unfold deliver;exact deliv_mk
theorem some_cons {q:QK} (h:q.someQ=true):q.l=q.headQ :: q.shiftQ.l:=by
 unfold QK.someQ at h
 unfold QK.headQ QK.shiftQ
 cases e:q.l with
 | nil=>rw [e] at h;simp at h
 | cons x t=>rfl
theorem may_some {s:LS} (h:s.may=true):s.q.someQ=true:=by
 unfold may at h;simp at h;exact h.1
theorem serve1_len {s:LS} (h:s.may=true) (c:Nat):s.q.l.length=(s.serve1 c).q.l.length + 1:=by
 have e:=congrArg List.length (some_cons (may_some h))
 rw [List.length_cons] at e
 rw [serve1_q];exact e
theorem serve_yes {s:LS} (h:s.may=true) (cs:List Nat):s.serve cs=(s.serve1 (cs.getD 0 0)).serve (cs.drop 1):=by
 unfold serve
 rw [serve1_len h (cs.getD 0 0)]
 show (if s.may then _ else _)=_
 rw [if_pos h]
theorem serve_no {s:LS} (h:s.may=false) (cs:List Nat):s.serve cs=s:=by
 unfold serve
 cases s.q.l.length with
 | zero=>rfl
 | succ n=>show (if s.may then _ else _)=_;rw [if_neg (by simp [h])]
theorem serve_ind {P:LS→Prop} (hs:∀s c,P s→s.may=true→P (s.serve1 c)):∀(n:Nat) (s:LS) (cs:List Nat),s.q.l.length=n→P s→P (s.serve cs)
 | n,s,cs,hn,h=>by
   cases hm:s.may with
   | false=>rw [serve_no hm];exact h
   | true=>
     rw [serve_yes hm]
     have:=serve1_len hm (cs.getD 0 0)
     match n,hn with
     | 0,hn=>omega
     | n + 1,hn=>exact serve_ind hs n _ _ (by omega) (hs s _ h hm)
structure ok (s:LS) (N:Nat):Prop where
 k:s.k.ok
 q:QInv s.q
 j:s.j.ok
 t:s.t≤18446744073709551615
 sz:∀x∈s.j.l,x.p.size≤18446744073709551615
 n:s.q.l.length + s.j.l.length≤N
 c1:s.served + totP s.q.l≤s.came
 c2:s.served=totP s.j.pks + s.deliv
 came:s.came≤18446744073709551615 * N
theorem start_okL {r d j b:Nat} (hr:r≤18446744073709551615) (hd:d≤18446744073709551615) (hj:j≤18446744073709551615) (hb:b≤18446744073709551615):(start r d j b).ok 0:=
 ⟨KB.start_ok hr,QInv.start hb,BxS.start_ok hd hj,Nat.zero_le _,fun x hx=>(by cases hx),Nat.le_refl _,Nat.le_refl _,rfl,Nat.le_refl _⟩
theorem putQ_tot (q:QK) (p:Pk):totP (q.putQ p).l≤totP q.l + p.size:=by
 unfold QK.putQ;split
 ·show totP (q.l ++ [p])≤_;rw [totP_app,totP_cons,totP_nil];omega
 ·exact Nat.le_add_right _ _
theorem ok.of {s:LS} {N M:Nat} (h:s.ok N) {k':KB} {q':QK} {j':BxS} {t' c' v' d':Nat} (hk:k'.ok) (hq:QInv q') (hj:j'.ok) (ht:t'≤18446744073709551615) (hz:∀x∈j'.l,x.p.size≤18446744073709551615)
  (hn:q'.l.length + j'.l.length≤M) (h1:v' + totP q'.l≤c') (h2:v'=totP j'.pks + d') (hc:c'≤18446744073709551615 * M):LS.ok ⟨s.rate,s.delay,s.jit,s.buf,k',q',j',t',c',v',d'⟩ M:=⟨hk,hq,hj,ht,hz,hn,h1,h2,hc⟩
theorem ok.send {s:LS} {N:Nat} (h:s.ok N) {p:Pk} (hp:p.size≤18446744073709551615):(s.send1 p).ok (N + 1):=by
 have h1:=putQ_tot s.q p
 have h2:=QK.put_len s.q p
 have h3:=h.n
 have h4:=h.c1
 have h5:=h.came
 unfold send1
 exact h.of h.k (h.q.put hp) h.j h.t h.sz (by omega) (by omega) h.c2 (by omega)
theorem pks_put (j:BxS) (p:Pk) (now c:Nat):(j.putB p now c).pks=j.pks ++ [p]:=by simp [BxS.pks,BxS.putB]
theorem ok.serve1 {s:LS} {N:Nat} (h:s.ok N) (hm:s.may=true) (c:Nat):(s.serve1 c).ok N:=by
 have e:=some_cons (may_some hm)
 have e1:s.q.l.length=s.q.shiftQ.l.length + 1:=(congrArg List.length e).trans (List.length_cons ..)
 have e2:totP s.q.l=s.q.headQ.size + totP s.q.shiftQ.l:=(congrArg totP e).trans (totP_cons _ _)
 have h3:=h.n
 have h4:=h.c1
 have h5:=h.c2
 have hz:=QK.head_ok h.q.ok
 have hl:=BxS.put_len s.j s.q.headQ s.t c
 have hp:=pks_put s.j s.q.headQ s.t c
 have ht:totP (s.j.putB s.q.headQ s.t c).pks=totP s.j.pks + s.q.headQ.size:=by rw [hp,totP_app,totP_cons,totP_nil];omega
 have hx:∀x∈(s.j.putB s.q.headQ s.t c).l,x.p.size≤18446744073709551615:=by
  intro x hx
  rcases List.mem_append.1 (show x∈s.j.l ++ [⟨s.q.headQ,s.j.dueB s.t c⟩] from hx) with d | d
  ·exact h.sz x d
  ·rw [List.mem_singleton.1 d];exact hz
 have hk:=KB.take_ok h.k s.q.headQ.size
 have hj:=BxS.put_ok h.j s.q.headQ s.t c
 have hq:=h.q.shift
 have h9:=h.came
 unfold LS.serve1
 generalize s.k.takeS s.q.headQ.size=k' at *
 generalize s.j.putB s.q.headQ s.t c=j' at *
 generalize s.q.shiftQ=q' at *
 exact h.of hk hq hj h.t hx (by omega) (by omega) (by omega) h9
theorem ok.serve {s:LS} {N:Nat} (h:s.ok N) (cs:List Nat):(s.serve cs).ok N:=serve_ind (P:=fun s=>s.ok N) (fun s c h hm=>h.serve1 hm c) _ s cs rfl h
theorem ok.toT {s:LS} {N:Nat} (h:s.ok N) {now:Nat} (hn:now≤18446744073709551615):(s.toT now).ok N:=by
 have hk:=KB.to_ok h.k hn
 unfold LS.toT
 generalize s.k.toS now=k' at *
 exact h.of hk h.q h.j hn h.sz h.n h.c1 h.c2 h.came
theorem ok.waste {s:LS} {N:Nat} (h:s.ok N) (x:Nat):(s.wasteL x).ok N:=by
 have hk:=KB.waste_ok h.k x
 unfold wasteL;split
 ·exact h
 ·unfold wasteK
  generalize s.k.wasteS x=k' at *
  exact h.of hk h.q h.j h.t h.sz h.n h.c1 h.c2 h.came
theorem told_out (j:BxS) (now:Nat):j.pks=j.told now ++ (j.outB now).pks:=by
 show List.map Jp.p j.l=List.map Jp.p (j.l.takeWhile (isDue now)) ++ List.map Jp.p (j.l.dropWhile (isDue now))
 rw [← List.map_append,List.takeWhile_append_dropWhile]
theorem ok.deliver {s:LS} {N:Nat} (h:s.ok N):s.deliver.ok N:=by
 have h3:=h.n
 have h5:=h.c2
 have h6:=BxS.out_len s.j s.t
 rw [told_out s.j s.t,totP_app] at h5
 have hj:=BxS.out_ok h.j s.t
 have hx:∀x∈(s.j.outB s.t).l,x.p.size≤18446744073709551615:=fun x hx=>h.sz x ((List.dropWhile_sublist _).subset hx)
 have h7:=h.c1
 have h8:=h.came
 unfold LS.deliver LS.out
 generalize s.j.outB s.t=j' at *
 generalize s.j.told s.t=l' at *
 exact h.of h.k h.q hj h.t hx (by omega) (by omega) (by omega) h8
theorem ok.ahead {s:LS} {N:Nat} (h:s.ok N) {now:Nat} (hn:now≤18446744073709551615) (x:Nat) (cs:List Nat):(s.ahead now x cs).ok N:=((h.toT hn).serve cs).waste x
theorem ok.tick {s:LS} {N:Nat} (h:s.ok N) {now:Nat} (hn:now≤18446744073709551615) (x:Nat) (cs:List Nat):(s.tick now x cs).ok N:=(h.ahead hn x cs).deliver
theorem ok.more {s:LS} {N M:Nat} (h:s.ok N) (hm:N≤M):s.ok M:=⟨h.k,h.q,h.j,h.t,h.sz,Nat.le_trans h.n hm,h.c1,h.c2,Nat.le_trans h.came (Nat.mul_le_mul_left _ hm)⟩
theorem ok.sends {l:List Pk}:∀{s:LS} {N:Nat},s.ok N→(∀x∈l,x.size≤18446744073709551615)→(s.sends l).ok (N + l.length):=by
 induction l with
 | nil=>intro s N h _;exact h
 | cons p t ih=>
   intro s N h hp
   have:=ih (h.send (hp p (by simp))) (fun x hx=>hp x (by simp [hx]))
   rw [List.length_cons,show N + (t.length + 1)=N + 1 + t.length by omega]
   exact this
theorem out_size {s:LS} {N:Nat} (h:s.ok N):∀x∈s.out,x.size≤18446744073709551615:=by
 intro x hx
 obtain ⟨y,hy,rfl⟩:=List.mem_map.1 hx
 exact h.sz y ((List.takeWhile_sublist _).subset hy)
def now (s:LS):Prop:=s.t=s.k.t
theorem take_t (k:KB) (x:Nat):(k.takeS x).t=k.t:=by
 unfold KB.takeS
 generalize Pl.mulS x 1000000=m
 unfold KB.spendS;split <;> rfl
theorem serve1_kt (s:LS) (c:Nat):(s.serve1 c).k.t=s.k.t:=by rw [serve1_k];exact take_t _ _
theorem serve_kt (s:LS) (cs:List Nat):(s.serve cs).k.t=s.k.t∧(s.serve cs).t=s.t:=
 serve_ind (P:=fun x=>x.k.t=s.k.t∧x.t=s.t) (fun x c h hm=>⟨(serve1_kt x c).trans h.1,(serve1_t x c).trans h.2⟩) _ s cs rfl ⟨rfl,rfl⟩
theorem waste_t (s:LS) (x:Nat):(s.wasteL x).t=s.t∧(s.wasteL x).k.t=s.k.t:=by
 unfold wasteL;split
 ·exact ⟨rfl,rfl⟩
 ·exact ⟨wasteK_t s x,(congrArg KB.t (wasteK_k s x)).trans rfl⟩
theorem ahead_t (s:LS) (n x:Nat) (cs:List Nat):(s.ahead n x cs).t=n:=by
 unfold ahead
 rw [(waste_t _ _).1,(serve_kt _ _).2,toT_t]
end LS
end Go.Proofs.Ytaffjfajjpgjpaa
