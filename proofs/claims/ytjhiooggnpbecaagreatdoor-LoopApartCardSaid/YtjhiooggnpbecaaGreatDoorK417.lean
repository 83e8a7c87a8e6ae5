/- Lemmas. -/
import Derived.Test.YtjhiooggnpbecaaGreatDoorK414
import Derived.Test.YtjhiooggnpbecaaGreatDoorK415
import Derived.Test.YtjhiooggnpbecaaGreatDoorK416
set_option linter.unusedVariables false
set_option maxHeartbeats 4000000
set_option maxRecDepth 100000
namespace Go.Proofs.YtjhiooggnpbecaaGreatDoor
open Tryz
variable {cs:Array Value} {L:List Nat} {M N a a1 a2 a3 a4 ac ad as1 at1 g i z:Nat} {T:TypeId} {r:Value} {W w w':World}
section
open Go.RowKit
def cV (l:List Pk):Nat:=(l.map (·.size)).sum
theorem kB:cV []=0:=rfl
theorem eM (p:Pk) (l:List Pk):cV (p :: l)=p.size + cV l:=by simp [cV]
theorem iJ (l r:List Pk):cV (l ++ r)=cV l + cV r:=by simp [cV]
theorem JW {l:List Pk} (h:∀x∈l,x.size≤↑ω):cV l≤↑ω * l.length:=by
 induction l with
 | nil=>exact Nat.le_refl _
 | cons p t ih=>
   rw [eM,List.length_cons,Nat.mul_succ];have:=h p (by simp);have:=ih (fun x hx=>h x (by simp [hx]));omega
structure mX (s:QK):Prop where
 ok:s.ok
 n:s.n=cV s.l
 le:s.n≤s.room
theorem mX.start {r:Nat} (h:r≤↑ω):mX (QK.start r):=⟨QK.start_ok h,rfl,Nat.zero_le _⟩
theorem mX.put {s:QK} (h:mX s) {p:Pk} (hp:p.size≤↑ω):mX (s.putQ p):=by
 have:=h.ok.room;have hn:=h.n;have hl:=h.le;refine ⟨QK.put_ok h.ok hp,?_,?_⟩
 ·unfold QK.putQ
  split
  ·next c=>
   unfold Pl.subS at c;unfold QK.addQ Pl.addS;show min (s.n + p.size) 18446744073709551615=cV (s.l ++ [p])
   rw [iJ,eM,kB];omega
  ·exact hn
 ·unfold QK.putQ
  split
  ·next c=>unfold Pl.subS at c;unfold QK.addQ Pl.addS;dsimp;omega
  ·exact hl
theorem mX.shift {s:QK} (h:mX s):mX s.shiftQ:=by
 refine ⟨QK.shift_ok h.ok,?_,Nat.le_trans (Pl.subS_le _ _) h.le⟩;have hn:=h.n;unfold QK.shiftQ QK.headQ;show Pl.subS s.n (s.l.getD 0 Itm.z).size=cV (s.l.drop 1)
 cases e:s.l with
 | nil=>rw [e] at hn;unfold Pl.subS;rw [hn];rfl
 | cons x t=>
   rw [e,eM] at hn;unfold Pl.subS;show s.n - x.size=cV t
   omega
structure LKS where
 rate:Nat
 delay:Nat
 jit:Nat
 buf:Nat
 k:KB
 q:QK
 j:BxS
 t:Nat
 came:Nat
 served:Nat
 deliv:Nat
namespace LKS
def start (r d j b:Nat):LKS:=⟨r,d,j,b,KB.start r,QK.start b,BxS.start d j,0,0,0,0⟩
def hi (n:Nat):Nat:=n / 18446744073709551616
def lo (n:Nat):Nat:=n % 18446744073709551616
def told (n:Nat):Nat:=min n 18446744073709551615
def withK (s:LKS) (k:KB):LKS:=⟨s.rate,s.delay,s.jit,s.buf,k,s.q,s.j,s.t,s.came,s.served,s.deliv⟩
def withQ (s:LKS) (q:QK):LKS:=⟨s.rate,s.delay,s.jit,s.buf,s.k,q,s.j,s.t,s.came,s.served,s.deliv⟩
def withJ (s:LKS) (j:BxS):LKS:=⟨s.rate,s.delay,s.jit,s.buf,s.k,s.q,j,s.t,s.came,s.served,s.deliv⟩
def withT (s:LKS) (t:Nat):LKS:=⟨s.rate,s.delay,s.jit,s.buf,s.k,s.q,s.j,t,s.came,s.served,s.deliv⟩
def withC (s:LKS) (c:Nat):LKS:=⟨s.rate,s.delay,s.jit,s.buf,s.k,s.q,s.j,s.t,c,s.served,s.deliv⟩
def withS (s:LKS) (c:Nat):LKS:=⟨s.rate,s.delay,s.jit,s.buf,s.k,s.q,s.j,s.t,s.came,c,s.deliv⟩
def withD (s:LKS) (c:Nat):LKS:=⟨s.rate,s.delay,s.jit,s.buf,s.k,s.q,s.j,s.t,s.came,s.served,c⟩
theorem q_mk {ak:KB} {aq:QK} {aj:BxS}:(⟨a1,a2,a3,a4,ak,aq,aj,at1,ac,as1,ad⟩:LKS).q=aq:=rfl
theorem j_mk {ak:KB} {aq:QK} {aj:BxS}:(⟨a1,a2,a3,a4,ak,aq,aj,at1,ac,as1,ad⟩:LKS).j=aj:=rfl
def send1 (s:LKS) (p:Pk):LKS:=⟨s.rate,s.delay,s.jit,s.buf,s.k,s.q.putQ p,s.j,s.t,s.came + p.size,s.served,s.deliv⟩
def sends (s:LKS) (l:List Pk):LKS:=l.foldl send1 s
def kept (s:LKS):List Pk→Nat
 | []=>0
 | p :: t=>(if s.q.putB p then 1 else 0) + kept (s.send1 p) t
def may (s:LKS):Bool:=s.q.someQ && s.k.takeB s.q.headQ.size
def serve1 (s:LKS) (c:Nat):LKS:=⟨s.rate,s.delay,s.jit,s.buf,s.k.takeS s.q.headQ.size,s.q.shiftQ,s.j.putB s.q.headQ s.t c,s.t,s.came,s.served + s.q.headQ.size,s.deliv⟩
def serveN:Nat→LKS→List Nat→LKS
 | 0,s,_=>s
 | n + 1,s,cs=>if s.may then serveN n (s.serve1 (cs.getD 0 0)) (cs.drop 1) else s
def serve (s:LKS) (cs:List Nat):LKS:=serveN s.q.l.length s cs
def toT (s:LKS) (now:Nat):LKS:=⟨s.rate,s.delay,s.jit,s.buf,s.k.toS now,s.q,s.j,now,s.came,s.served,s.deliv⟩
def wasteK (s:LKS) (x:Nat):LKS:=⟨s.rate,s.delay,s.jit,s.buf,s.k.wasteS x,s.q,s.j,s.t,s.came,s.served,s.deliv⟩
def wasteL (s:LKS) (x:Nat):LKS:=if s.q.someQ then s else s.wasteK x
def out (s:LKS):List Pk:=s.j.told s.t
def deliver (s:LKS):LKS:=⟨s.rate,s.delay,s.jit,s.buf,s.k,s.q,s.j.outB s.t,s.t,s.came,s.served,s.deliv + cV s.out⟩
def ahead (s:LKS) (now waste:Nat) (cs:List Nat):LKS:=((s.toT now).serve cs).wasteL waste
def tick (s:LKS) (now waste:Nat) (cs:List Nat):LKS:=(s.ahead now waste cs).deliver
def tickOut (s:LKS) (now waste:Nat) (cs:List Nat):List Pk:=(s.ahead now waste cs).out
theorem send1_q (s:LKS) (p:Pk):(s.send1 p).q=s.q.putQ p:=by unfold send1;exact q_mk
theorem send1_j (s:LKS) (p:Pk):(s.send1 p).j=s.j:=by unfold send1;exact j_mk
theorem serve1_q (s:LKS) (c:Nat):(s.serve1 c).q=s.q.shiftQ:=by unfold serve1;exact q_mk
theorem serve1_j (s:LKS) (c:Nat):(s.serve1 c).j=s.j.putB s.q.headQ s.t c:=by unfold serve1;exact j_mk
theorem toT_q (s:LKS) (now:Nat):(s.toT now).q=s.q:=by unfold toT;exact q_mk
theorem toT_j (s:LKS) (now:Nat):(s.toT now).j=s.j:=by unfold toT;exact j_mk
theorem wasteK_q (s:LKS) (x:Nat):(s.wasteK x).q=s.q:=by unfold wasteK;exact q_mk
theorem wasteK_j (s:LKS) (x:Nat):(s.wasteK x).j=s.j:=by unfold wasteK;exact j_mk
theorem deliver_q (s:LKS):(s.deliver).q=s.q:=by unfold deliver;exact q_mk
theorem deliver_j (s:LKS):(s.deliver).j=s.j.outB s.t:=by unfold deliver;exact j_mk
theorem some_cons {q:QK} (h:q.someQ=true):q.l=q.headQ :: q.shiftQ.l:=by
 unfold QK.someQ at h;unfold QK.headQ QK.shiftQ;cases e:q.l with
 | nil=>rw [e] at h;simp at h
 | cons x t=>rfl
theorem may_some {s:LKS} (h:s.may=true):s.q.someQ=true:=by
 unfold may at h;simp at h;exact h.1
theorem serve1_len {s:LKS} (h:s.may=true) (c:Nat):s.q.l.length=(s.serve1 c).q.l.length + 1:=by
 have e:=congrArg List.length (some_cons (may_some h));rw [List.length_cons] at e;rw [serve1_q];exact e
theorem serve_yes {s:LKS} (h:s.may=true) (cs:List Nat):s.serve cs=(s.serve1 (cs.getD 0 0)).serve (cs.drop 1):=by
 unfold serve;rw [serve1_len h (cs.getD 0 0)];show (if s.may then _ else _)=_
 rw [if_pos h]
theorem serve_no {s:LKS} (h:s.may=false) (cs:List Nat):s.serve cs=s:=by
 unfold serve;cases s.q.l.length with
 | zero=>rfl
 | succ n=>show (if s.may then _ else _)=_;rw [if_neg (by simp [h])]
theorem serve_ind {P:LKS→Prop} (hs:∀s c,P s→s.may=true→P (s.serve1 c)):∀(n:Nat) (s:LKS) (cs:List Nat),s.q.l.length=n→P s→P (s.serve cs)
 | n,s,cs,hn,h=>by
   cases hm:s.may with
   | false=>rw [serve_no hm];exact h
   | true=>
     rw [serve_yes hm];have:=serve1_len hm (cs.getD 0 0)
     match n,hn with
     | 0,hn=>omega
     | n + 1,hn=>exact serve_ind hs n _ _ (by omega) (hs s _ h hm)
structure ok (s:LKS) (N:Nat):Prop where
 k:s.k.ok
 q:mX s.q
 j:s.j.ok
 t:s.t≤↑ω
 sz:∀x∈s.j.l,x.p.size≤↑ω
 n:s.q.l.length + s.j.l.length≤N
 c1:s.served + cV s.q.l≤s.came
 c2:s.served=cV s.j.pks + s.deliv
 came:s.came≤↑ω * N
theorem start_okL {r d j b:Nat} (hr:r≤↑ω) (hd:d≤↑ω) (hj:j≤↑ω) (hb:b≤↑ω):(start r d j b).ok 0:=
 ⟨KB.start_ok hr,mX.start hb,BxS.start_ok hd hj,Nat.zero_le _,fun x hx=>(by cases hx),Nat.le_refl _,Nat.le_refl _,rfl,Nat.le_refl _⟩
theorem putQ_tot (q:QK) (p:Pk):cV (q.putQ p).l≤cV q.l + p.size:=by
 unfold QK.putQ;split
 ·show cV (q.l ++ [p])≤_;rw [iJ,eM,kB];omega
 ·exact Nat.le_add_right _ _
theorem ok.of {s:LKS} (h:s.ok N) {k':KB} {q':QK} {j':BxS} {t' c' v' d':Nat} (hk:k'.ok) (hq:mX q') (hj:j'.ok) (ht:t'≤↑ω) (hz:∀x∈j'.l,x.p.size≤↑ω)
  (hn:q'.l.length + j'.l.length≤M) (h1:v' + cV q'.l≤c') (h2:v'=cV j'.pks + d') (hc:c'≤↑ω * M):LKS.ok ⟨s.rate,s.delay,s.jit,s.buf,k',q',j',t',c',v',d'⟩ M:=⟨hk,hq,hj,ht,hz,hn,h1,h2,hc⟩
theorem ok.send {s:LKS} (h:s.ok N) {p:Pk} (hp:p.size≤↑ω):(s.send1 p).ok (N + 1):=by
 have h1:=putQ_tot s.q p;have h2:=QK.put_len s.q p;have h3:=h.n;have h4:=h.c1;have h5:=h.came;unfold send1;exact h.of h.k (h.q.put hp) h.j h.t h.sz (by omega) (by omega) h.c2 (by omega)
theorem pks_put (j:BxS) (p:Pk) (now c:Nat):(j.putB p now c).pks=j.pks ++ [p]:=by simp [BxS.pks,BxS.putB]
theorem ok.serve1 {s:LKS} {N:Nat} (h:s.ok N) (hm:s.may=true) (c:Nat):(s.serve1 c).ok N:=by
 have e:=some_cons (may_some hm);have e1:s.q.l.length=s.q.shiftQ.l.length + 1:=(congrArg List.length e).trans (List.length_cons ..);have e2:cV s.q.l=s.q.headQ.size + cV s.q.shiftQ.l:=(congrArg cV e).trans (eM _ _);have h3:=h.n;have h4:=h.c1;have h5:=h.c2;have hz:=QK.head_ok h.q.ok;have hl:=BxS.put_len s.j s.q.headQ s.t c;have hp:=pks_put s.j s.q.headQ s.t c;have ht:cV (s.j.putB s.q.headQ s.t c).pks=cV s.j.pks + s.q.headQ.size:=by rw [hp,iJ,eM,kB];omega
 have hx:∀x∈(s.j.putB s.q.headQ s.t c).l,x.p.size≤18446744073709551615:=by
  intro x hx;rcases List.mem_append.1 (show x∈s.j.l ++ [⟨s.q.headQ,s.j.dueB s.t c⟩] from hx) with d | d
  ·exact h.sz x d
  ·rw [List.mem_singleton.1 d];exact hz
 have hk:=KB.take_ok h.k s.q.headQ.size;have hj:=BxS.put_ok h.j s.q.headQ s.t c;have hq:=h.q.shift;have h9:=h.came;unfold LKS.serve1;generalize s.k.takeS s.q.headQ.size=k' at *;generalize s.j.putB s.q.headQ s.t c=j' at *;generalize s.q.shiftQ=q' at *;exact h.of hk hq hj h.t hx (by omega) (by omega) (by omega) h9
theorem ok.serve {s:LKS} {N:Nat} (h:s.ok N) (cs:List Nat):(s.serve cs).ok N:=serve_ind (P:=fun s=>s.ok N) (fun s c h hm=>h.serve1 hm c) _ s cs rfl h
theorem ok.toT {s:LKS} {N:Nat} (h:s.ok N) {now:Nat} (hn:now≤↑ω):(s.toT now).ok N:=by
 have hk:=KB.to_ok h.k hn;unfold LKS.toT;generalize s.k.toS now=k' at *;exact h.of hk h.q h.j hn h.sz h.n h.c1 h.c2 h.came
theorem ok.waste {s:LKS} (h:s.ok N) (x:Nat):(s.wasteL x).ok N:=by
 have hk:=KB.waste_ok h.k x;unfold wasteL;split
 ·exact h
 ·unfold wasteK
  generalize s.k.wasteS x=k' at *;exact h.of hk h.q h.j h.t h.sz h.n h.c1 h.c2 h.came
theorem told_out (j:BxS) (now:Nat):j.pks=j.told now ++ (j.outB now).pks:=by
 show List.map Jp.p j.l=List.map Jp.p (j.l.takeWhile (iH now)) ++ List.map Jp.p (j.l.dropWhile (iH now))
 rw [← List.map_append,List.takeWhile_append_dropWhile]
theorem ok.deliver {s:LKS} {N:Nat} (h:s.ok N):s.deliver.ok N:=by
 have h3:=h.n;have h5:=h.c2;have h6:=BxS.out_len s.j s.t;rw [told_out s.j s.t,iJ] at h5;have hj:=BxS.out_ok h.j s.t;have hx:∀x∈(s.j.outB s.t).l,x.p.size≤18446744073709551615:=fun x hx=>h.sz x ((List.dropWhile_sublist _).subset hx);have h7:=h.c1;have h8:=h.came;unfold LKS.deliver LKS.out;generalize s.j.outB s.t=j' at *;generalize s.j.told s.t=l' at *;exact h.of h.k h.q hj h.t hx (by omega) (by omega) (by omega) h8
theorem ok.ahead {s:LKS} {N:Nat} (h:s.ok N) {now:Nat} (hn:now≤↑ω) (x:Nat) (cs:List Nat):(s.ahead now x cs).ok N:=((h.toT hn).serve cs).waste x
theorem ok.tick {s:LKS} {N:Nat} (h:s.ok N) {now:Nat} (hn:now≤↑ω) (x:Nat) (cs:List Nat):(s.tick now x cs).ok N:=(h.ahead hn x cs).deliver
theorem ok.more {s:LKS} (h:s.ok N) (hm:N≤M):s.ok M:=⟨h.k,h.q,h.j,h.t,h.sz,Nat.le_trans h.n hm,h.c1,h.c2,Nat.le_trans h.came (Nat.mul_le_mul_left _ hm)⟩
theorem ok.sends {l:List Pk}:∀{s:LKS} {N:Nat},s.ok N→(∀x∈l,x.size≤↑ω)→(s.sends l).ok (N + l.length):=by
 induction l with
 | nil=>intro s N h _;exact h
 | cons p t ih=>
   intro s N h hp;have:=ih (h.send (hp p (by simp))) (fun x hx=>hp x (by simp [hx]));rw [List.length_cons,show N + (t.length + 1)=N + 1 + t.length by omega];exact this
theorem out_size {s:LKS} (h:s.ok N):∀x∈s.out,x.size≤18446744073709551615:=by
 intro x hx;obtain ⟨y,hy,rfl⟩:=List.mem_map.1 hx;exact h.sz y ((List.takeWhile_sublist _).subset hy)
def now (s:LKS):Prop:=s.t=s.k.t
theorem to_t {k:KB} {n:Nat} (h:k.t≤n):(k.toS n).t=n:=by
 unfold KB.toS;split
 ·omega
 ·rfl
end LKS

namespace LKS
def all (s:LKS):List Pk:=s.j.pks ++ s.q.l
theorem all_serve1 (s:LKS) (hm:s.may=true) (c:Nat):(s.serve1 c).all=s.all:=by
 have e:=some_cons (may_some hm);unfold all;rw [serve1_j,serve1_q,pks_put,List.append_assoc];show s.j.pks ++ (s.q.headQ :: s.q.shiftQ.l)=_
 rw [← e]
theorem all_serve (s:LKS) (cs:List Nat):(s.serve cs).all=s.all:=serve_ind (P:=fun x=>x.all=s.all) (fun x c h hm=>(all_serve1 x hm c).trans h) _ s cs rfl rfl
theorem all_ahead (s:LKS) (now x:Nat) (cs:List Nat):(s.ahead now x cs).all=s.all:=by
 have e:((s.toT now).serve cs).all=s.all:=by rw [all_serve];unfold all;rw [toT_j,toT_q]
 unfold ahead wasteL;split
 ·exact e
 ·rw [← e];unfold all;rw [wasteK_j,wasteK_q]
theorem all_deliver (s:LKS):s.all=s.out ++ s.deliver.all:=by
 unfold all;rw [deliver_j,deliver_q,told_out s.j s.t,List.append_assoc];rfl
end LKS
end

section
open Go.RowKit Pl
def Ten (w:World) (b:Nat) (f r l st:Bool) (fl tg cp rs el wt:Nat):Prop:=
 w.cell? ⟨b,0,none⟩=some (.bool f)∧w.cell? ⟨b,1,none⟩=some (.bool r)∧w.cell? ⟨b,2,none⟩=some (.bool l)∧w.cell? ⟨b,3,none⟩=some (.bool st)∧
 w.cell? ⟨b,4,none⟩=some ↑fl∧w.cell? ⟨b,5,none⟩=some ↑tg∧w.cell? ⟨b,6,none⟩=some ↑cp∧w.cell? ⟨b,7,none⟩=some ↑rs∧
 w.cell? ⟨b,8,none⟩=some ↑el∧w.cell? ⟨b,9,none⟩=some ↑wt
theorem uW {b:Nat} {f r l st:Bool} {fl tg cp rs el wt:Nat}
  (h:Blk w b T #[.bool f,.bool r,.bool l,.bool st,↑fl,↑tg,↑cp,↑rs,↑el,↑wt]):Ten w b f r l st fl tg cp rs el wt:=
 ⟨h.cell rfl,h.cell rfl,h.cell rfl,h.cell rfl,h.cell rfl,h.cell rfl,h.cell rfl,h.cell rfl,h.cell rfl,h.cell rfl⟩
def bG (s:Int) (x:aV):Int:=
 if s=0 then (if (x.full || x.lossy)=true then 1 else 0)
 else if s=1 then (if x.fl≤x.tg then 2 else 1)
 else if s=2 then (if x.fl≤min x.tg x.cp then 3 else if ovS x=true then 4 else 2)
 else if s=3 then (if ovS x=true then 4 else 3)
 else if s=4 then (if 1≤x.rs then 5 else 4)
 else if s=5 then (if (x.lossy || (decide (1≤x.rs) && fX x))=true then 2 else 5)
 else if s=6 then (if (ovS x && decide (1≤x.rs))=true then (if x.full=true then 3 else 0) else 6)
 else s
theorem eN {s:Int} (h:bJ s=true) (h6:(s != 6)=true) {x:aV} (hx:x.stale=true):fG s x=6:=by
 unfold fG;rw [h,hx,h6];exact if_pos rfl
theorem kZ {s:Int} {x:aV} (h:x.stale=false∨bJ s=false∨s=6):fG s x=bG s x:=by
 unfold fG;rw [if_neg (by rcases h with h | h | h <;> simp [h])];rfl
theorem jD:(∀(f r l:Bool) (fl tg cp rs el wt:Nat) (w:World) (hx:aV.ok ⟨f,r,l,false,fl,tg,cp,rs,el,wt⟩),Calls prog 175 #[.int .i64 1,.agg (aV.cells ⟨f,r,l,false,fl,tg,cp,rs,el,wt⟩)] w fun e w'=>e=.returned (.int .i64 (bG 1 ⟨f,r,l,false,fl,tg,cp,rs,el,wt⟩))∧Below ↑w w w')∧(∀(f r l:Bool) (fl tg cp rs el wt:Nat) (w:World) (hx:aV.ok ⟨f,r,l,false,fl,tg,cp,rs,el,wt⟩),Calls prog 175 #[.int .i64 2,.agg (aV.cells ⟨f,r,l,false,fl,tg,cp,rs,el,wt⟩)] w fun e w'=>e=.returned (.int .i64 (bG 2 ⟨f,r,l,false,fl,tg,cp,rs,el,wt⟩))∧Below ↑w w w')∧(∀(f r l:Bool) (fl tg cp rs el wt:Nat) (w:World) (hx:aV.ok ⟨f,r,l,false,fl,tg,cp,rs,el,wt⟩),Calls prog 175 #[.int .i64 4,.agg (aV.cells ⟨f,r,l,false,fl,tg,cp,rs,el,wt⟩)] w fun e w'=>e=.returned (.int .i64 (bG 4 ⟨f,r,l,false,fl,tg,cp,rs,el,wt⟩))∧Below ↑w w w')∧(∀(f r l:Bool) (fl tg cp rs el wt:Nat) (w:World) (hx:aV.ok ⟨f,r,l,false,fl,tg,cp,rs,el,wt⟩),Calls prog 175 #[.int .i64 5,.agg (aV.cells ⟨f,r,l,false,fl,tg,cp,rs,el,wt⟩)] w fun e w'=>e=.returned (.int .i64 (bG 5 ⟨f,r,l,false,fl,tg,cp,rs,el,wt⟩))∧Below ↑w w w'):=by
 refine ⟨?_,?_,?_,?_⟩
 have k0v:Hid True:=trivial;rotate_left;have k1v:Hid True:=trivial;rotate_left;have k2v:Hid True:=trivial;rotate_left;have k3v:Hid True:=trivial;rotate_left
 all_goals intro f r l fl tg cp rs el wt w hx
 all_goals
  have HB:=lh ((Below.refl w.heap.size w).alloc (Nat.le_refl _) (.cells (aV.cells ⟨f,r,l,false,fl,tg,cp,rs,el,wt⟩) 282));have HK:=lh (Blk.new w 282 (aV.cells ⟨f,r,l,false,fl,tg,cp,rs,el,wt⟩));first
  |revert k0v;intro k0v;have HR:=lh (fun w=>cD 1 w);rw [show bJ 1=true by decide] at HR
  |revert k1v;intro k1v;have HR:=lh (fun w=>cD 2 w);rw [show bJ 2=true by decide] at HR
  |revert k2v;intro k2v;have HR:=lh (fun w=>cD 4 w);rw [show bJ 4=true by decide] at HR
  |have HR:=lh (fun w=>cD 5 w);rw [show bJ 5=true by decide] at HR
  have HO:=lh (fun w=>j9 ⟨f,r,l,false,fl,tg,cp,rs,el,wt⟩ w);have HP:=lh (fun w=>gH ⟨f,r,l,false,fl,tg,cp,rs,el,wt⟩ w);have HH:=lh (fun w=>kA ⟨f,r,l,false,fl,tg,cp,rs,el,wt⟩ hx w);clear hx;first
  |revert k0v;intro k0v;by_cases c:fl≤tg
  |revert k1v;intro k1v;by_cases c:fl≤min tg cp
  |by_cases c:1≤rs
  ·first
   |revert k0v;intro k0v;have HS:Hid (bG 1 ⟨f,r,l,false,fl,tg,cp,rs,el,wt⟩=2):=lh (by unfold bG;rw [if_neg (by decide),if_pos rfl,if_pos c]);have t1:decide (fl≤tg)=true:=decide_eq_true c
   |revert k1v;intro k1v;have HS:Hid (bG 2 ⟨f,r,l,false,fl,tg,cp,rs,el,wt⟩=3):=lh (by unfold bG;rw [if_neg (by decide),if_neg (by decide),if_pos rfl,if_pos c]);have t1:decide ((fl:Int)≤min (tg:Int) (cp:Int))=true:=decide_eq_true (by omega)
   |revert k2v;intro k2v;have HS:Hid (bG 4 ⟨f,r,l,false,fl,tg,cp,rs,el,wt⟩=5):=lh (by unfold bG;rw [if_neg (by decide),if_neg (by decide),if_neg (by decide),if_neg (by decide),if_pos rfl,if_pos c]);have t1:decide ((1:Int)≤(rs:Int))=true:=decide_eq_true (by omega)
   |have HS:Hid (bG 5 ⟨f,r,l,false,fl,tg,cp,rs,el,wt⟩=if (l || (true && fX ⟨f,r,l,false,fl,tg,cp,rs,el,wt⟩))=true then 2 else 5):=lh (by unfold bG;rw [if_neg (by decide),if_neg (by decide),if_neg (by decide),if_neg (by decide),if_neg (by decide),if_pos rfl];rw [decide_eq_true c]);have t1:decide ((1:Int)≤(rs:Int))=true:=decide_eq_true (by omega)
   clear c;generalize ovS ⟨f,r,l,false,fl,tg,cp,rs,el,wt⟩=bo at *;generalize fX ⟨f,r,l,false,fl,tg,cp,rs,el,wt⟩=bh at *;unfold aV.cells at *;dsimp only at *;first
   |revert k3v;intro k3v;cases l
    ·cases bh
     all_goals
      go_enter func175,ntmps175;go_wp2_with fail;refine (HH.out _).mono ?_;rintro e w1 ⟨rfl,h1⟩;go_wp2_with fail;go_ret;exact ⟨by rw [HS.out];rfl,aD HB.out h1 HB.out.size⟩
    ·go_enter func175,ntmps175;go_wp2_with fail;go_ret;exact ⟨by rw [HS.out];rfl,HB.out⟩
   |go_enter func175,ntmps175;go_wp2_with fail;go_ret;exact ⟨by rw [HS.out];rfl,HB.out⟩
  ·first
   |revert k0v;intro k0v;have HS:Hid (bG 1 ⟨f,r,l,false,fl,tg,cp,rs,el,wt⟩=1):=lh (by unfold bG;rw [if_neg (by decide),if_pos rfl,if_neg c]);have t1:decide (fl≤tg)=false:=decide_eq_false c
   |revert k1v;intro k1v;have HS:Hid (bG 2 ⟨f,r,l,false,fl,tg,cp,rs,el,wt⟩=if ovS ⟨f,r,l,false,fl,tg,cp,rs,el,wt⟩=true then 4 else 2):=lh (by unfold bG;rw [if_neg (by decide),if_neg (by decide),if_pos rfl,if_neg c]);have t1:decide ((fl:Int)≤min (tg:Int) (cp:Int))=false:=decide_eq_false (by omega)
   |revert k2v;intro k2v;have HS:Hid (bG 4 ⟨f,r,l,false,fl,tg,cp,rs,el,wt⟩=4):=lh (by unfold bG;rw [if_neg (by decide),if_neg (by decide),if_neg (by decide),if_neg (by decide),if_pos rfl,if_neg c]);have t1:decide ((1:Int)≤(rs:Int))=false:=decide_eq_false (by omega)
   |have HS:Hid (bG 5 ⟨f,r,l,false,fl,tg,cp,rs,el,wt⟩=if (l || (false && fX ⟨f,r,l,false,fl,tg,cp,rs,el,wt⟩))=true then 2 else 5):=lh (by unfold bG;rw [if_neg (by decide),if_neg (by decide),if_neg (by decide),if_neg (by decide),if_neg (by decide),if_pos rfl];rw [decide_eq_false c]);have t1:decide ((1:Int)≤(rs:Int))=false:=decide_eq_false (by omega)
   clear c;generalize ovS ⟨f,r,l,false,fl,tg,cp,rs,el,wt⟩=bo at *;generalize fX ⟨f,r,l,false,fl,tg,cp,rs,el,wt⟩=bh at *;unfold aV.cells at *;dsimp only at *;first
   |revert k1v;intro k1v;cases bo
    all_goals
     go_enter func175,ntmps175;go_wp2_with fail;refine (HO.out _).mono ?_;rintro e w1 ⟨rfl,h1⟩;go_wp2_with fail;go_ret;exact ⟨by rw [HS.out];rfl,aD HB.out h1 HB.out.size⟩
   |revert k3v;intro k3v;cases l
    all_goals
     go_enter func175,ntmps175;go_wp2_with fail;go_ret;exact ⟨by rw [HS.out];rfl,HB.out⟩
   |go_enter func175,ntmps175;go_wp2_with fail;go_ret;exact ⟨by rw [HS.out];rfl,HB.out⟩
theorem eO:(∀(f r l:Bool) (fl tg cp rs el wt:Nat) (w:World) (hx:aV.ok ⟨f,r,l,true,fl,tg,cp,rs,el,wt⟩),Calls prog 175 #[.int .i64 0,.agg (aV.cells ⟨f,r,l,true,fl,tg,cp,rs,el,wt⟩)] w fun e w'=>e=.returned (.int .i64 6)∧Below ↑w w w')∧(∀(f r l:Bool) (fl tg cp rs el wt:Nat) (w:World) (hx:aV.ok ⟨f,r,l,true,fl,tg,cp,rs,el,wt⟩),Calls prog 175 #[.int .i64 1,.agg (aV.cells ⟨f,r,l,true,fl,tg,cp,rs,el,wt⟩)] w fun e w'=>e=.returned (.int .i64 6)∧Below ↑w w w')∧(∀(f r l:Bool) (fl tg cp rs el wt:Nat) (w:World) (hx:aV.ok ⟨f,r,l,true,fl,tg,cp,rs,el,wt⟩),Calls prog 175 #[.int .i64 2,.agg (aV.cells ⟨f,r,l,true,fl,tg,cp,rs,el,wt⟩)] w fun e w'=>e=.returned (.int .i64 6)∧Below ↑w w w')∧(∀(f r l:Bool) (fl tg cp rs el wt:Nat) (w:World) (hx:aV.ok ⟨f,r,l,true,fl,tg,cp,rs,el,wt⟩),Calls prog 175 #[.int .i64 3,.agg (aV.cells ⟨f,r,l,true,fl,tg,cp,rs,el,wt⟩)] w fun e w'=>e=.returned (.int .i64 6)∧Below ↑w w w')∧(∀(f r l:Bool) (fl tg cp rs el wt:Nat) (w:World) (hx:aV.ok ⟨f,r,l,true,fl,tg,cp,rs,el,wt⟩),Calls prog 175 #[.int .i64 4,.agg (aV.cells ⟨f,r,l,true,fl,tg,cp,rs,el,wt⟩)] w fun e w'=>e=.returned (.int .i64 6)∧Below ↑w w w')∧(∀(f r l:Bool) (fl tg cp rs el wt:Nat) (w:World) (hx:aV.ok ⟨f,r,l,true,fl,tg,cp,rs,el,wt⟩),Calls prog 175 #[.int .i64 5,.agg (aV.cells ⟨f,r,l,true,fl,tg,cp,rs,el,wt⟩)] w fun e w'=>e=.returned (.int .i64 6)∧Below ↑w w w')∧(∀(s:Int) (f r l:Bool) (fl tg cp rs el wt:Nat) (w:World) (hx:aV.ok ⟨f,r,l,true,fl,tg,cp,rs,el,wt⟩) (hs:s < 0∨6 < s),Calls prog 175 #[.int .i64 s,.agg (aV.cells ⟨f,r,l,true,fl,tg,cp,rs,el,wt⟩)] w fun e w'=>e=.returned (.int .i64 (bG s ⟨f,r,l,true,fl,tg,cp,rs,el,wt⟩))∧Below ↑w w w'):=by
 refine ⟨?_,?_,?_,?_,?_,?_,?_⟩
 have k0v:Hid True:=trivial;intro f r l fl tg cp rs el wt w hx;rotate_left;have k1v:Hid True:=trivial;intro f r l fl tg cp rs el wt w hx;rotate_left;have k2v:Hid True:=trivial;intro f r l fl tg cp rs el wt w hx;rotate_left;have k3v:Hid True:=trivial;intro f r l fl tg cp rs el wt w hx;rotate_left;have k4v:Hid True:=trivial;intro f r l fl tg cp rs el wt w hx;rotate_left;have k5v:Hid True:=trivial;intro f r l fl tg cp rs el wt w hx;rotate_left;have k6v:Hid True:=trivial;intro s f r l fl tg cp rs el wt w hx hs;rotate_left
 all_goals
  have HB:=lh ((Below.refl w.heap.size w).alloc (Nat.le_refl _) (.cells (aV.cells ⟨f,r,l,true,fl,tg,cp,rs,el,wt⟩) 282));have HK:=lh (Blk.new w 282 (aV.cells ⟨f,r,l,true,fl,tg,cp,rs,el,wt⟩));first
  |revert k0v;intro k0v;have HR:=lh (fun w=>cD 0 w);rw [show bJ 0=true by decide] at HR
  |revert k1v;intro k1v;have HR:=lh (fun w=>cD 1 w);rw [show bJ 1=true by decide] at HR
  |revert k2v;intro k2v;have HR:=lh (fun w=>cD 2 w);rw [show bJ 2=true by decide] at HR
  |revert k3v;intro k3v;have HR:=lh (fun w=>cD 3 w);rw [show bJ 3=true by decide] at HR
  |revert k4v;intro k4v;have HR:=lh (fun w=>cD 4 w);rw [show bJ 4=true by decide] at HR
  |revert k5v;intro k5v;have HR:=lh (fun w=>cD 5 w);rw [show bJ 5=true by decide] at HR
  |have HR:=lh (fun w=>cD s w);rw [fK hs] at HR
  have HO:=lh (fun w=>j9 ⟨f,r,l,true,fl,tg,cp,rs,el,wt⟩ w);have HP:=lh (fun w=>gH ⟨f,r,l,true,fl,tg,cp,rs,el,wt⟩ w);have HH:=lh (fun w=>kA ⟨f,r,l,true,fl,tg,cp,rs,el,wt⟩ hx w);clear hx;first
  |revert k6v;intro k6v;have HS:Hid (bG s ⟨f,r,l,true,fl,tg,cp,rs,el,wt⟩=s):=lh (by unfold bG;rw [if_neg (by omega),if_neg (by omega),if_neg (by omega),if_neg (by omega),if_neg (by omega),if_neg (by omega),if_neg (by omega)]);have t0:(s == 0)=false:=beq_eq_false_iff_ne.2 (by omega);have t1:(s == 1)=false:=beq_eq_false_iff_ne.2 (by omega);have t2:(s == 2)=false:=beq_eq_false_iff_ne.2 (by omega);have t3:(s == 3)=false:=beq_eq_false_iff_ne.2 (by omega);have t4:(s == 4)=false:=beq_eq_false_iff_ne.2 (by omega);have t5:(s == 5)=false:=beq_eq_false_iff_ne.2 (by omega);have t6:(s == 6)=false:=beq_eq_false_iff_ne.2 (by omega);clear hs
  |skip
  generalize ovS ⟨f,r,l,true,fl,tg,cp,rs,el,wt⟩=bo at *;generalize fX ⟨f,r,l,true,fl,tg,cp,rs,el,wt⟩=bh at *;unfold aV.cells at *;dsimp only at *;go_enter func175,ntmps175;go_wp2_with fail;refine (HR.out _).mono ?_;rintro e w' ⟨rfl,rfl⟩;go_wp2_with fail;go_ret;first
  |revert k6v;intro k6v;exact ⟨by rw [HS.out];rfl,HB.out⟩
  |exact ⟨rfl,HB.out⟩
theorem oT:(∀(f r l:Bool) (fl tg cp rs el wt:Nat) (w:World) (hx:aV.ok ⟨f,r,l,true,fl,tg,cp,rs,el,wt⟩),Calls prog 175 #[.int .i64 6,.agg (aV.cells ⟨f,r,l,true,fl,tg,cp,rs,el,wt⟩)] w fun e w'=>e=.returned (.int .i64 (bG 6 ⟨f,r,l,true,fl,tg,cp,rs,el,wt⟩))∧Below ↑w w w')∧(∀(f r l:Bool) (fl tg cp rs el wt:Nat) (w:World) (hx:aV.ok ⟨f,r,l,false,fl,tg,cp,rs,el,wt⟩),Calls prog 175 #[.int .i64 6,.agg (aV.cells ⟨f,r,l,false,fl,tg,cp,rs,el,wt⟩)] w fun e w'=>e=.returned (.int .i64 (bG 6 ⟨f,r,l,false,fl,tg,cp,rs,el,wt⟩))∧Below ↑w w w'):=by
 refine ⟨?_,?_⟩
 have k0v:Hid True:=trivial;rotate_left;rotate_left
 all_goals intro f r l fl tg cp rs el wt w hx
 all_goals
  first
  |revert k0v;intro k0v;have HB:=lh ((Below.refl w.heap.size w).alloc (Nat.le_refl _) (.cells (aV.cells ⟨f,r,l,true,fl,tg,cp,rs,el,wt⟩) 282));have HK:=lh (Blk.new w 282 (aV.cells ⟨f,r,l,true,fl,tg,cp,rs,el,wt⟩))
  |have HB:=lh ((Below.refl w.heap.size w).alloc (Nat.le_refl _) (.cells (aV.cells ⟨f,r,l,false,fl,tg,cp,rs,el,wt⟩) 282));have HK:=lh (Blk.new w 282 (aV.cells ⟨f,r,l,false,fl,tg,cp,rs,el,wt⟩))
  have HR:=lh (fun w=>cD 6 w);rw [show bJ 6=true by decide] at HR;first
  |revert k0v;intro k0v;have HO:=lh (fun w=>j9 ⟨f,r,l,true,fl,tg,cp,rs,el,wt⟩ w);have HP:=lh (fun w=>gH ⟨f,r,l,true,fl,tg,cp,rs,el,wt⟩ w);have HH:=lh (fun w=>kA ⟨f,r,l,true,fl,tg,cp,rs,el,wt⟩ hx w)
  |have HO:=lh (fun w=>j9 ⟨f,r,l,false,fl,tg,cp,rs,el,wt⟩ w);have HP:=lh (fun w=>gH ⟨f,r,l,false,fl,tg,cp,rs,el,wt⟩ w);have HH:=lh (fun w=>kA ⟨f,r,l,false,fl,tg,cp,rs,el,wt⟩ hx w)
  clear hx;by_cases c:1≤rs
  ·first
   |revert k0v;intro k0v;have HS:Hid (bG 6 ⟨f,r,l,true,fl,tg,cp,rs,el,wt⟩=if (ovS ⟨f,r,l,true,fl,tg,cp,rs,el,wt⟩ && true)=true then (if f=true then 3 else 0) else 6):=lh (by unfold bG;rw [if_neg (by decide),if_neg (by decide),if_neg (by decide),if_neg (by decide),if_neg (by decide),if_neg (by decide),if_pos rfl];rw [decide_eq_true c])
   |have HS:Hid (bG 6 ⟨f,r,l,false,fl,tg,cp,rs,el,wt⟩=if (ovS ⟨f,r,l,false,fl,tg,cp,rs,el,wt⟩ && true)=true then (if f=true then 3 else 0) else 6):=lh (by unfold bG;rw [if_neg (by decide),if_neg (by decide),if_neg (by decide),if_neg (by decide),if_neg (by decide),if_neg (by decide),if_pos rfl];rw [decide_eq_true c])
   have t1:decide ((1:Int)≤(rs:Int))=true:=decide_eq_true (by omega);clear c;first
   |revert k0v;intro k0v;generalize ovS ⟨f,r,l,true,fl,tg,cp,rs,el,wt⟩=bo at *;generalize fX ⟨f,r,l,true,fl,tg,cp,rs,el,wt⟩=bh at *
   |generalize ovS ⟨f,r,l,false,fl,tg,cp,rs,el,wt⟩=bo at *;generalize fX ⟨f,r,l,false,fl,tg,cp,rs,el,wt⟩=bh at *
   unfold aV.cells at *;dsimp only at *;cases bo
   ·first
    |revert k0v;intro k0v;go_enter func175,ntmps175;go_wp2_with fail;refine (HR.out _).mono ?_;rintro e w' ⟨rfl,rfl⟩
    |go_enter func175,ntmps175
    go_wp2_with fail;refine (HO.out _).mono ?_;rintro e w1 ⟨rfl,h1⟩;obtain ⟨k0,k1,k2,k3,k4,k5,k6,k7,k8,k9⟩:=uW (HK.out.keep h1);go_wp2_with fail;go_ret;exact ⟨by rw [HS.out];rfl,aD HB.out h1 HB.out.size⟩
   ·cases f
    all_goals
     first
     |revert k0v;intro k0v;go_enter func175,ntmps175;go_wp2_with fail;refine (HR.out _).mono ?_;rintro e w' ⟨rfl,rfl⟩
     |go_enter func175,ntmps175
     go_wp2_with fail;refine (HO.out _).mono ?_;rintro e w1 ⟨rfl,h1⟩;obtain ⟨k0,k1,k2,k3,k4,k5,k6,k7,k8,k9⟩:=uW (HK.out.keep h1);go_wp2_with fail;refine (HP.out _).mono ?_;rintro e w2 ⟨rfl,h2⟩;go_wp2_with fail;go_ret;exact ⟨by rw [HS.out];rfl,aD (aD HB.out h1 HB.out.size) h2 (Nat.le_trans HB.out.size h1.size)⟩
  ·first
   |revert k0v;intro k0v;have HS:Hid (bG 6 ⟨f,r,l,true,fl,tg,cp,rs,el,wt⟩=if (ovS ⟨f,r,l,true,fl,tg,cp,rs,el,wt⟩ && false)=true then (if f=true then 3 else 0) else 6):=lh (by unfold bG;rw [if_neg (by decide),if_neg (by decide),if_neg (by decide),if_neg (by decide),if_neg (by decide),if_neg (by decide),if_pos rfl];rw [decide_eq_false c])
   |have HS:Hid (bG 6 ⟨f,r,l,false,fl,tg,cp,rs,el,wt⟩=if (ovS ⟨f,r,l,false,fl,tg,cp,rs,el,wt⟩ && false)=true then (if f=true then 3 else 0) else 6):=lh (by unfold bG;rw [if_neg (by decide),if_neg (by decide),if_neg (by decide),if_neg (by decide),if_neg (by decide),if_neg (by decide),if_pos rfl];rw [decide_eq_false c])
   have t1:decide ((1:Int)≤(rs:Int))=false:=decide_eq_false (by omega);clear c;first
   |revert k0v;intro k0v;generalize ovS ⟨f,r,l,true,fl,tg,cp,rs,el,wt⟩=bo at *;generalize fX ⟨f,r,l,true,fl,tg,cp,rs,el,wt⟩=bh at *
   |generalize ovS ⟨f,r,l,false,fl,tg,cp,rs,el,wt⟩=bo at *;generalize fX ⟨f,r,l,false,fl,tg,cp,rs,el,wt⟩=bh at *
   unfold aV.cells at *;dsimp only at *;cases bo
   all_goals
    first
    |revert k0v;intro k0v;go_enter func175,ntmps175;go_wp2_with fail;refine (HR.out _).mono ?_;rintro e w' ⟨rfl,rfl⟩
    |go_enter func175,ntmps175
    go_wp2_with fail;refine (HO.out _).mono ?_;rintro e w1 ⟨rfl,h1⟩;obtain ⟨k0,k1,k2,k3,k4,k5,k6,k7,k8,k9⟩:=uW (HK.out.keep h1);go_wp2_with fail;go_ret;exact ⟨by rw [HS.out];rfl,aD HB.out h1 HB.out.size⟩
theorem lC:(∀(f r l:Bool) (fl tg cp rs el wt:Nat) (w:World) (hx:aV.ok ⟨f,r,l,false,fl,tg,cp,rs,el,wt⟩),Calls prog 175 #[.int .i64 0,.agg (aV.cells ⟨f,r,l,false,fl,tg,cp,rs,el,wt⟩)] w fun e w'=>e=.returned (.int .i64 (bG 0 ⟨f,r,l,false,fl,tg,cp,rs,el,wt⟩))∧Below ↑w w w')∧(∀(f r l:Bool) (fl tg cp rs el wt:Nat) (w:World) (hx:aV.ok ⟨f,r,l,false,fl,tg,cp,rs,el,wt⟩),Calls prog 175 #[.int .i64 3,.agg (aV.cells ⟨f,r,l,false,fl,tg,cp,rs,el,wt⟩)] w fun e w'=>e=.returned (.int .i64 (bG 3 ⟨f,r,l,false,fl,tg,cp,rs,el,wt⟩))∧Below ↑w w w')∧(∀(s:Int) (f r l:Bool) (fl tg cp rs el wt:Nat) (w:World) (hx:aV.ok ⟨f,r,l,false,fl,tg,cp,rs,el,wt⟩) (hs:s < 0∨6 < s),Calls prog 175 #[.int .i64 s,.agg (aV.cells ⟨f,r,l,false,fl,tg,cp,rs,el,wt⟩)] w fun e w'=>e=.returned (.int .i64 (bG s ⟨f,r,l,false,fl,tg,cp,rs,el,wt⟩))∧Below ↑w w w'):=by
 refine ⟨?_,?_,?_⟩
 have k0v:Hid True:=trivial;intro f r l fl tg cp rs el wt w hx;rotate_left;have k1v:Hid True:=trivial;intro f r l fl tg cp rs el wt w hx;rotate_left;have k2v:Hid True:=trivial;intro s f r l fl tg cp rs el wt w hx hs;rotate_left
 all_goals
  have HB:=lh ((Below.refl w.heap.size w).alloc (Nat.le_refl _) (.cells (aV.cells ⟨f,r,l,false,fl,tg,cp,rs,el,wt⟩) 282));have HK:=lh (Blk.new w 282 (aV.cells ⟨f,r,l,false,fl,tg,cp,rs,el,wt⟩));first
  |revert k0v;intro k0v;have HR:=lh (fun w=>cD 0 w);rw [show bJ 0=true by decide] at HR
  |revert k1v;intro k1v;have HR:=lh (fun w=>cD 3 w);rw [show bJ 3=true by decide] at HR
  |have HR:=lh (fun w=>cD s w);rw [fK hs] at HR
  have HO:=lh (fun w=>j9 ⟨f,r,l,false,fl,tg,cp,rs,el,wt⟩ w);have HP:=lh (fun w=>gH ⟨f,r,l,false,fl,tg,cp,rs,el,wt⟩ w);have HH:=lh (fun w=>kA ⟨f,r,l,false,fl,tg,cp,rs,el,wt⟩ hx w);clear hx;first
  |revert k0v;intro k0v
  |revert k1v;intro k1v;have HS:Hid (bG 3 ⟨f,r,l,false,fl,tg,cp,rs,el,wt⟩=if ovS ⟨f,r,l,false,fl,tg,cp,rs,el,wt⟩=true then 4 else 3):=lh (by unfold bG;rw [if_neg (by decide),if_neg (by decide),if_neg (by decide),if_pos rfl])
  |have HS:Hid (bG s ⟨f,r,l,false,fl,tg,cp,rs,el,wt⟩=s):=lh (by unfold bG;rw [if_neg (by omega),if_neg (by omega),if_neg (by omega),if_neg (by omega),if_neg (by omega),if_neg (by omega),if_neg (by omega)]);have t0:(s == 0)=false:=beq_eq_false_iff_ne.2 (by omega);have t1:(s == 1)=false:=beq_eq_false_iff_ne.2 (by omega);have t2:(s == 2)=false:=beq_eq_false_iff_ne.2 (by omega);have t3:(s == 3)=false:=beq_eq_false_iff_ne.2 (by omega);have t4:(s == 4)=false:=beq_eq_false_iff_ne.2 (by omega);have t5:(s == 5)=false:=beq_eq_false_iff_ne.2 (by omega);have t6:(s == 6)=false:=beq_eq_false_iff_ne.2 (by omega);clear hs
  generalize ovS ⟨f,r,l,false,fl,tg,cp,rs,el,wt⟩=bo at *;generalize fX ⟨f,r,l,false,fl,tg,cp,rs,el,wt⟩=bh at *;unfold aV.cells at *;dsimp only at *;first
  |revert k2v;intro k2v;go_enter func175,ntmps175;go_wp2_with fail;go_ret;exact ⟨by rw [HS.out];rfl,HB.out⟩
  |revert k0v;intro k0v;cases f <;> cases l
   all_goals
    go_enter func175,ntmps175;go_wp2_with fail;go_ret;exact ⟨rfl,HB.out⟩
  |cases bo
   all_goals
    go_enter func175,ntmps175;go_wp2_with fail;refine (HO.out _).mono ?_;rintro e w1 ⟨rfl,h1⟩;go_wp2_with fail;go_ret;exact ⟨by rw [HS.out];rfl,aD HB.out h1 HB.out.size⟩
theorem JX (s:Int) (x:aV) (hx:x.ok) (w:World):Calls prog 175 #[.int .i64 s,.agg x.cells] w fun e w'=>e=.returned (.int .i64 (fG s x))∧Below ↑w w w':=by
 obtain ⟨f,r,l,st,fl,tg,cp,rs,el,wt⟩:=x;cases st
 ·rw [kZ (Or.inl rfl)]
  revert s
  exact mV (lC.1 f r l fl tg cp rs el wt w hx) (jD.1 f r l fl tg cp rs el wt w hx) (jD.2.1 f r l fl tg cp rs el wt w hx) (lC.2.1 f r l fl tg cp rs el wt w hx) (jD.2.2.1 f r l fl tg cp rs el wt w hx) (jD.2.2.2 f r l fl tg cp rs el wt w hx) (oT.2 f r l fl tg cp rs el wt w hx) (fun s hs=>lC.2.2 s f r l fl tg cp rs el wt w hx hs)
 ·revert s
  refine mV ?_ ?_ ?_ ?_ ?_ ?_ ?_ (fun s hs=>?_)
  ·rw [eN (by decide) (by decide) rfl];exact eO.1 f r l fl tg cp rs el wt w hx
  ·rw [eN (by decide) (by decide) rfl];exact eO.2.1 f r l fl tg cp rs el wt w hx
  ·rw [eN (by decide) (by decide) rfl];exact eO.2.2.1 f r l fl tg cp rs el wt w hx
  ·rw [eN (by decide) (by decide) rfl];exact eO.2.2.2.1 f r l fl tg cp rs el wt w hx
  ·rw [eN (by decide) (by decide) rfl];exact eO.2.2.2.2.1 f r l fl tg cp rs el wt w hx
  ·rw [eN (by decide) (by decide) rfl];exact eO.2.2.2.2.2.1 f r l fl tg cp rs el wt w hx
  ·rw [kZ (Or.inr (Or.inr rfl))];exact oT.1 f r l fl tg cp rs el wt w hx
  ·rw [kZ (Or.inr (Or.inl (fK hs)))];exact eO.2.2.2.2.2.2 s f r l fl tg cp rs el wt w hx hs

theorem kC {b off:Nat} {l:List Pk} {k:Nat} (h:∀i j,i < l.length→j < Itm.k Pk→w.cell? ⟨b,off + (i * Itm.k Pk + j),none⟩=(Itm.cs (l.getD i Itm.z))[j]?) (hk:k < l.length) {o:Nat} (ho:o=off + k * 7):
  ∀j,j < 7→w.cell? ⟨b,o + j,none⟩=(Pk.cs (l.getD k Itm.z))[j]?:=by
 subst ho;intro j hj;have:=h k j hk hj;rw [← Nat.add_assoc] at this;exact this
def D7 (w:World) (q:Pk) (l:List Pk) (k:Nat) (wr:World):Prop:=
 Blk wr w.heap.size 71 #[↑ζ,↑ζ,↑ζ,↑ζ,.bool false]∧Blk wr (w.heap.size + 1) 71 (cZ q.st (l.take k)).cells∧Below ↑w w wr
theorem gI:(∀(p:Option Addr) (c:Nat) (q:Pk) (l:List Pk) (w:World) (hl:Its w p (q :: l)) (hc:l.length + 1≤c) (hm:c≤9223372036854775807) (hc1:¬ c=1),Calls prog 116 #[.slice p (l.length + 1) c] w fun e w'=>e=.returned (.agg (cZ q.st l).cells)∧Below ↑w w w')∧(∀(p:Option Addr) (q:Pk) (w:World) (hl:Its w p [q]),Calls prog 116 #[.slice p 1 1] w fun e w'=>e=.returned (.agg q.st.cells)∧Below ↑w w w'):=by
 refine ⟨?_,?_⟩
 have k0v:Hid True:=trivial;intro p c q l w hl hc hm hc1;rotate_left;have k1v:Hid True:=trivial;intro p q w hl;rotate_left
 all_goals
  obtain ⟨b,off,rfl,hb,hcs⟩:=hl (by simp);have HC:=lh hcs;have H0:=kC (k:=0) hcs (by simp) (o:=off) (by omega);have c2:=H0 2 (by omega);have c3:=H0 3 (by omega);have c4:=H0 4 (by omega);have c5:=H0 5 (by omega);have c6:=H0 6 (by omega);clear hcs H0 hl;have HZ:=lh hb;simp only [List.getD_cons_zero,Pk.cs,List.getElem?_cons_succ,List.getElem?_cons_zero] at c2 c3 c4 c5 c6;go_enter func116,ntmps116;go_wp2_with fail;first
  |revert k0v;intro k0v;go_loopw [13] (fun i wr=>∃k:Nat,i=.int .i64 (k:Int)∧k≤l.length∧D7 w q l k wr) (fun i _=>l.length - (intOf i).toNat);case atStart=>exact ⟨0,rfl,Nat.zero_le _,(Blk.new _ _ _).alloc _,Blk.new1 _ _ _ _,((Below.refl _ _).alloc (Nat.le_refl _) _).alloc (by simp) _⟩
  |go_loopw [13] (fun i wr=>i=.int .i64 0∧D7 w q [] 0 wr) (fun i _=>0);case atStart=>exact ⟨rfl,(Blk.new _ _ _).alloc _,Blk.new1 _ _ _ _,((Below.refl _ _).alloc (Nat.le_refl _) _).alloc (by simp) _⟩
  case round=>
   first
   |revert k1v;intro k1v;obtain ⟨rfl,h0,h1,h2⟩:=hrel;have HB0:=lh h0;have HB1:Hid (Blk wr (w.heap.size + 1) 71 q.st.cells):=lh h1;have HW:=lh h2;clear h0 h1 h2 c2 c3 c4 c5 c6;have z0:=HB0.out.cell (i:=0) (v:=↑ζ) rfl;have z1:=HB0.out.cell (i:=1) (v:=↑ζ) rfl;have z2:=HB0.out.cell (i:=2) (v:=↑ζ) rfl;have z3:=HB0.out.cell (i:=3) (v:=↑ζ) rfl;have z4:=HB0.out.cell (i:=4) (v:=.bool false) rfl;have t0:=HB1.out.cell (i:=0) (v:=↑q.sent) rfl;have t1:=HB1.out.cell (i:=1) (v:=↑q.first) rfl;have t2:=HB1.out.cell (i:=2) (v:=↑q.deliv) rfl;have t3:=HB1.out.cell (i:=3) (v:=↑q.at_) rfl;have t4:=HB1.out.cell (i:=4) (v:=.bool q.lim) rfl;have f0:=HB0.out.free 0;have f1:=HB0.out.free 1;have f2:=HB0.out.free 2;have f3:=HB0.out.free 3;have f4:=HB0.out.free 4;have F1:=lh (Blk.whole [↑q.sent,↑q.first,↑q.deliv,↑q.at_,.bool q.lim] HB0.out rfl);have FW:=lh (Below.sets (Nat.le_refl w.heap.size) [↑q.sent,↑q.first,↑q.deliv,↑q.at_,.bool q.lim] 0 _ HW.out);go_wp2_with fail;exact bodyPost_ret (aI rfl _ _ w.heap.size 71 _ _ rfl F1.out underlying71 rfl (by kernel_rfl)) rfl ⟨rfl,FW.out⟩
   |obtain ⟨k,rfl,hk,h0,h1,h2⟩:=hrel;have HB0:=lh h0;have HB1:=lh h1;have HW:=lh h2;have hsz:=h2.size;have hlt1:=h1.lt;clear h0 h1 h2 c2 c3 c4 c5 c6;by_cases hlt:k < l.length
    ·have H1:=kC (k:=k + 1) HC.out (by simp;omega) (o:=off + 7 + k * 7) (by omega);have d0:=(HW.out.cell (p:=⟨b,_,none⟩) HZ.out).trans (H1 0 (by omega));have d1:=(HW.out.cell (p:=⟨b,_,none⟩) HZ.out).trans (H1 1 (by omega));have d2:=(HW.out.cell (p:=⟨b,_,none⟩) HZ.out).trans (H1 2 (by omega));have d3:=(HW.out.cell (p:=⟨b,_,none⟩) HZ.out).trans (H1 3 (by omega));have d4:=(HW.out.cell (p:=⟨b,_,none⟩) HZ.out).trans (H1 4 (by omega));have d5:=(HW.out.cell (p:=⟨b,_,none⟩) HZ.out).trans (H1 5 (by omega));have d6:=(HW.out.cell (p:=⟨b,_,none⟩) HZ.out).trans (H1 6 (by omega));clear H1;have e:(q :: l).getD (k + 1) Itm.z=l.getD k Itm.z:=by simp [List.getD_eq_getElem?_getD]
     rw [e] at d0 d1 d2 d3 d4 d5 d6;clear e;have HT:=lh (pR q.st hlt);generalize l.getD k Itm.z=x at *;generalize cZ q.st (l.take k)=best at *;simp only [Pk.cs,List.getElem?_cons_succ,List.getElem?_cons_zero,Nat.add_zero] at d0 d1 d2 d3 d4 d5 d6;have i0:(0:Int)≤(k:Int):=by omega
     have i1:(k:Int) < (l.length:Int):=by omega
     have t0:=HB1.out.cell (i:=0) (v:=↑best.sent) rfl;have t1:=HB1.out.cell (i:=1) (v:=↑best.first) rfl;have t2:=HB1.out.cell (i:=2) (v:=↑best.deliv) rfl;have t3:=HB1.out.cell (i:=3) (v:=↑best.at_) rfl;have t4:=HB1.out.cell (i:=4) (v:=.bool best.lim) rfl;have HO:Hid (∀w,Calls prog 167 #[.agg #[↑x.sent,↑x.first,↑x.deliv,↑x.at_,.bool x.lim],.agg #[↑best.sent,↑best.first,↑best.deliv,↑best.at_,.bool best.lim]] w fun e w'=>e=.returned (.bool (mJ x.st best))∧Below ↑w w w'):=lh (fun w=>CV x.st best w);obtain ⟨o,ho⟩:∃o,mJ x.st best=o:=⟨_,rfl⟩;rw [ho] at HO;have HP:Hid (rS best x=if o=true then best else x.st):=lh (by rw [← ho];rfl);clear ho;have HN:=lh (Blk.new wr 73 #[↑x.n,↑x.size,↑x.sent,↑x.first,↑x.deliv,↑x.at_,.bool x.lim]);have HA:=lh ((Below.refl wr.heap.size wr).alloc (Nat.le_refl _) (.cells #[↑x.n,↑x.size,↑x.sent,↑x.first,↑x.deliv,↑x.at_,.bool x.lim] 73));go_wp2_with fail;refine (HO.out _).mono ?_;rintro e w2 ⟨rfl,hb2⟩;have HN2:=lh (HN.out.keep hb2);have HA2:=lh (HA.out.trans (hb2.mono (by simp)));clear hb2 t0 t1 t2 t3 t4 d0 d1 d2 d3 d4 d5 d6 HN HA HO;have HB02:=lh (HB0.out.keep HA2.out);have HB12:=lh (HB1.out.keep HA2.out);have HW2:=lh (aD HW.out HA2.out HW.out.size);cases o with
     | true=>
      go_wp2_with fail;go_roundw;case rel=>exact ⟨k + 1,by go_num,by omega,HB02.out,by rw [HT.out,HP.out];exact HB12.out,HW2.out⟩
      case measure=>simp [intOf];omega
     | false=>
      have e2:=HN2.out.cell (i:=2) (v:=↑x.sent) rfl;have e3:=HN2.out.cell (i:=3) (v:=↑x.first) rfl;have e4:=HN2.out.cell (i:=4) (v:=↑x.deliv) rfl;have e5:=HN2.out.cell (i:=5) (v:=↑x.at_) rfl;have e6:=HN2.out.cell (i:=6) (v:=.bool x.lim) rfl;have t0:=HB12.out.cell (i:=0) (v:=↑best.sent) rfl;have t1:=HB12.out.cell (i:=1) (v:=↑best.first) rfl;have t2:=HB12.out.cell (i:=2) (v:=↑best.deliv) rfl;have t3:=HB12.out.cell (i:=3) (v:=↑best.at_) rfl;have t4:=HB12.out.cell (i:=4) (v:=.bool best.lim) rfl;have f0:=HB12.out.free 0;have f1:=HB12.out.free 1;have f2:=HB12.out.free 2;have f3:=HB12.out.free 3;have f4:=HB12.out.free 4;have HX:Hid (Blk _ (w.heap.size + 1) 71 x.st.cells):=lh (Blk.whole [↑x.sent,↑x.first,↑x.deliv,↑x.at_,.bool x.lim] HB12.out rfl);have HX0:=lh (Blk.sets_other (g:=w.heap.size + 1) (show w.heap.size≠w.heap.size + 1 by omega) [↑x.sent,↑x.first,↑x.deliv,↑x.at_,.bool x.lim] 0 _ HB02.out);have HXW:=lh (Below.sets (show ↑w≤w.heap.size + 1 by omega) [↑x.sent,↑x.first,↑x.deliv,↑x.at_,.bool x.lim] 0 _ HW2.out);go_wp2_with fail;go_roundw;case rel=>exact ⟨k + 1,by go_num,by omega,HX0.out,by rw [HT.out,HP.out];exact HX.out,HXW.out⟩
      case measure=>simp [intOf];omega
    ·obtain rfl:k=l.length:=by omega
     rw [List.take_length] at HB1;generalize hbe:cZ q.st l=best at HB1;have HE:=lh hbe;clear hbe;have z0:=HB0.out.cell (i:=0) (v:=↑ζ) rfl;have z1:=HB0.out.cell (i:=1) (v:=↑ζ) rfl;have z2:=HB0.out.cell (i:=2) (v:=↑ζ) rfl;have z3:=HB0.out.cell (i:=3) (v:=↑ζ) rfl;have z4:=HB0.out.cell (i:=4) (v:=.bool false) rfl;have t0:=HB1.out.cell (i:=0) (v:=↑best.sent) rfl;have t1:=HB1.out.cell (i:=1) (v:=↑best.first) rfl;have t2:=HB1.out.cell (i:=2) (v:=↑best.deliv) rfl;have t3:=HB1.out.cell (i:=3) (v:=↑best.at_) rfl;have t4:=HB1.out.cell (i:=4) (v:=.bool best.lim) rfl;have f0:=HB0.out.free 0;have f1:=HB0.out.free 1;have f2:=HB0.out.free 2;have f3:=HB0.out.free 3;have f4:=HB0.out.free 4;have F1:=lh (Blk.whole [↑best.sent,↑best.first,↑best.deliv,↑best.at_,.bool best.lim] HB0.out rfl);have FW:=lh (Below.sets (Nat.le_refl w.heap.size) [↑best.sent,↑best.first,↑best.deliv,↑best.at_,.bool best.lim] 0 _ HW.out);go_wp2_with fail;exact bodyPost_ret (aI rfl _ _ w.heap.size 71 _ _ rfl F1.out underlying71 rfl (by kernel_rfl)) rfl ⟨by rw [HE.out];rfl,FW.out⟩
theorem zI (p:Option Addr) (c:Nat) (q:Pk) (l:List Pk) (w:World) (hl:Its w p (q :: l)) (hc:l.length + 1≤c) (hm:c≤9223372036854775807):
  Calls prog 116 #[.slice p (l.length + 1) c] w fun e w'=>e=.returned (.agg (cZ q.st l).cells)∧Below ↑w w w':=by
 by_cases h:c=1
 ·subst h
  obtain rfl:l=[]:=List.eq_nil_of_length_eq_zero (by omega);exact gI.2 p q w hl
 ·exact gI.1 p c q l w hl hc hm h

theorem zJ {b L k:Nat} {u v:Value} (h:w.cell? ⟨b,i,none⟩=some v) (n:b≠L):(w.setCell ⟨L,k,none⟩ u).cell? ⟨b,i,none⟩=some v:=far h n
theorem OM (m x:Nat) (hm:m≤↑ω) (hx:x≤↑ω) (W:World):
  Calls prog 60 #[.slice (some ⟨W.heap.size,0,none⟩) 2 2] (W.alloc (.cells #[↑m,↑x] 22)).drew fun e w'=>e=.returned ↑(addS m x:Nat)∧(W.alloc (.cells #[↑m,↑x] 22)).drew=w':=by
 rw [← sumS_two];refine i6 W.heap.size 0 2 [m,x] _ (by simp) (by simp;omega) ?_;intro i hi
 match i,hi with
 | 0,_=>exact aM (aN rfl (by simp))
 | 1,_=>exact aM (aN rfl (by simp))
def ON (w:World) (b:Nat) (s:RaS) (L:List Pk) (k:Nat) (wr:World):Prop:=
 Blk wr w.heap.size 130 #[↑ζ,↑ζ,↑ζ,↑ζ,.bool false]∧iE wr b ⟨aT s.n (L.take k),s.last,s.first,s.mark⟩∧w.grownBy wr (some b)
structure zK (w:World) (b:Nat) (x:Smp) (s:RaS) (e:Ending) (w':World):Prop where
 e:e=.returned (.tuple #[.agg x.cells,.bool true])
 blk:iE w' b s
 gr:w.grownBy w' (some b)
theorem OO (b now c:Nat) (p:Option Addr) (q:Pk) (l:List Pk) (s:RaS) (w:World) (h:iE w b s) (hs:s.ok) (hnow:now≤↑ω) (hl:Its w p (q :: l)) (hu:∀x∈q :: l,x.u64) (hp:∀a,p=some a→a.block≠b) (hc:l.length + 1≤c) (hm:c≤9223372036854775807):
  Calls prog 65 #[↑(π b),↑now,.slice p (l.length + 1) c] w (zK w b (s.ackT now q l) (s.ack now q l)):=by
 obtain ⟨pb,off,rfl,hb,hcs⟩:=hl (by simp);have HP:Hid (pb≠b):=lh (hp _ rfl);have HL:=lh hl;have HC:=lh hcs;have HZ:=lh hb;have HU:=lh hu;have HS:=lh hs;have HH:=lh h;clear hl hcs hb hp hu hs;have HR:=lh (Blk.new w 130 #[↑ζ,↑ζ,↑ζ,↑ζ,.bool false]);have HB:=lh (Blk.alloc h (.cells #[↑ζ,↑ζ,↑ζ,↑ζ,.bool false] 130));have HG:=lh (eF (bS w (some b)) (.cells #[↑ζ,↑ζ,↑ζ,↑ζ,.bool false] 130));have hblt:=Blk.lt h;have HNb:Hid (w.heap.size≠b):=lh (by omega);clear h;have hz:(((l.length:Int) + 1) == 0)=false:=beq_eq_false_iff_ne.2 (by omega);go_enter func65,ntmps65;go_wp2_with fail;go_loopw [21] (fun i wr=>∃k:Nat,i=.int .i64 (k:Int)∧k≤l.length + 1∧ON w b s (q :: l) k wr) (fun i _=>l.length + 1 - (intOf i).toNat)
 case atStart=>exact ⟨0,rfl,Nat.zero_le _,HR.out,HB.out,HG.out⟩
 case round=>
  obtain ⟨k,rfl,hk,h0,h1,h2⟩:=hrel;have HR1:=lh h0;have HB1:=lh h1;have HG1:=lh h2;have hsz:=h2.size;clear h0 h1 h2 HR HB HG;by_cases hlt:k < l.length + 1
  ·have H1:=kC (k:=k) HC.out (by simpa using hlt) (o:=off + k * 7) (by omega)
   have d0:=(World.grownBy.cell_far HG1.out ⟨pb,_,none⟩ HZ.out (by intro e;injection e with e;exact HP.out e)).trans (H1 0 (by omega));have d1:=(World.grownBy.cell_far HG1.out ⟨pb,_,none⟩ HZ.out (by intro e;injection e with e;exact HP.out e)).trans (H1 1 (by omega));have d2:=(World.grownBy.cell_far HG1.out ⟨pb,_,none⟩ HZ.out (by intro e;injection e with e;exact HP.out e)).trans (H1 2 (by omega));have d3:=(World.grownBy.cell_far HG1.out ⟨pb,_,none⟩ HZ.out (by intro e;injection e with e;exact HP.out e)).trans (H1 3 (by omega));have d4:=(World.grownBy.cell_far HG1.out ⟨pb,_,none⟩ HZ.out (by intro e;injection e with e;exact HP.out e)).trans (H1 4 (by omega));have d5:=(World.grownBy.cell_far HG1.out ⟨pb,_,none⟩ HZ.out (by intro e;injection e with e;exact HP.out e)).trans (H1 5 (by omega));have d6:=(World.grownBy.cell_far HG1.out ⟨pb,_,none⟩ HZ.out (by intro e;injection e with e;exact HP.out e)).trans (H1 6 (by omega));clear H1;have hx:((q :: l).getD k Itm.z).u64:=by
    have hlt':k < (q :: l).length:=by simpa using hlt
    have e:(q :: l).getD k Itm.z=(q :: l)[k]:=by rw [List.getD_eq_getElem?_getD,List.getElem?_eq_getElem hlt'];rfl
    rw [e];exact HU.out _ (List.getElem_mem hlt')
   have HX:=hx.size;clear hx;have HT:=lh (oK s.n (l:=q :: l) (k:=k) (by simpa using hlt));have hle:aT s.n ((q :: l).take k)≤18446744073709551615:=dJ HS.out.n;generalize (q :: l).getD k Itm.z=x at *;generalize aT s.n ((q :: l).take k)=m at *;simp only [Pk.cs,List.getElem?_cons_succ,List.getElem?_cons_zero,Nat.add_zero] at d0 d1 d2 d3 d4 d5 d6;have i0:(0:Int)≤(k:Int):=by omega
   have i1:(k:Int) < (l.length:Int) + 1:=by omega
   have HN:=lh (Blk.new wr 73 #[↑x.n,↑x.size,↑x.sent,↑x.first,↑x.deliv,↑x.at_,.bool x.lim]);have HB2:=lh (Blk.alloc HB1.out (.cells #[↑x.n,↑x.size,↑x.sent,↑x.first,↑x.deliv,↑x.at_,.bool x.lim] 73));have HR2:=lh (Blk.alloc HR1.out (.cells #[↑x.n,↑x.size,↑x.sent,↑x.first,↑x.deliv,↑x.at_,.bool x.lim] 73));have HG2:=lh (eF HG1.out (.cells #[↑x.n,↑x.size,↑x.sent,↑x.first,↑x.deliv,↑x.at_,.bool x.lim] 73));go_wp2_with fail;generalize (wr.alloc (.cells #[↑x.n,↑x.size,↑x.sent,↑x.first,↑x.deliv,↑x.at_,.bool x.lim] 73))=wa at *;clear d0 d1 d2 d3 d4 d5 d6 HB1 HR1 HG1;have e0:=Blk.cell HB2.out (i:=0) (v:=↑m) rfl;have e1:=HN.out.cell (i:=1) (v:=↑x.size) rfl;have f0:=Blk.free HB2.out 0;have hl1:=Blk.lt HB2.out;have hl2:=HN.out.lt;have HA:=lh (OM m x.size hle HX wa);generalize addS m x.size=m' at *;go_region_with (first | (go_at_call 60;with_reducible refine (HA.out).mono ?_;rintro e w' ⟨rfl,rfl⟩))
   all_goals
    have J0:=lh (((HR2.out.set_other 0 ↑m' HNb.out).alloc (.cells #[↑m,↑x.size] 22)).drew);have J1:Hid (iE _ b ⟨m',s.last,s.first,s.mark⟩):=lh (((Blk.set HB2.out 0 ↑m').alloc (.cells #[↑m,↑x.size] 22)).drew);have J2:=lh (dP (eF (bI HG2.out 0 ↑m') (.cells #[↑m,↑x.size] 22)));go_wp2_with fail;go_roundw
    case rel=>exact ⟨k + 1,by go_num,by omega,J0.out,by rw [HT.out];exact J1.out,J2.out⟩
    case measure=>simp [intOf];omega
  ·obtain rfl:k=l.length + 1:=by omega
   have e:(q :: l).take (l.length + 1)=q :: l:=List.take_of_length_le (by simp);rw [e] at HB1;clear e;have HI:Hid (Its wr (some ⟨pb,off,none⟩) (q :: l)):=lh (fun _=>⟨pb,off,rfl,Nat.lt_of_lt_of_le HZ.out HG1.out.size,fun i j hi hj=>(World.grownBy.cell_far HG1.out ⟨pb,_,none⟩ HZ.out (by intro e;injection e with e;exact HP.out e)).trans (HC.out i j hi hj)⟩);have HW:=lh (zI (some ⟨pb,off,none⟩) c q l wr HI.out hc hm);have HTo:=jP (l:=l) (HU.out q List.mem_cons_self).st (fun x hx=>HU.out x (List.mem_cons_of_mem _ hx));have hM:aT s.n (q :: l)≤18446744073709551615:=dJ HS.out.n;have HX:Hid (s.ack now q l=⟨aT s.n (q :: l),now,(cZ q.st l).sent,lO (aT s.n (q :: l)) s.mark⟩):=lh rfl;have HY:Hid (s.ackT now q l=wG now (aT s.n (q :: l)) (cZ q.st l)):=lh rfl;clear HC HP HL HU HI HZ;generalize aT s.n (q :: l)=m at *;generalize cZ q.st l=t at *;generalize s.ack now q l=s2 at *;generalize s.ackT now q l=x2 at *;have hsz2:=HG1.out.size;have hbl:=Blk.lt HB1.out;go_wp2_with fail;refine (HW.out).mono ?_;rintro e w2 ⟨rfl,hb2⟩;have HR2:=lh ((HR1.out.keep hb2).alloc (.cells t.cells 71));have HB2:=lh ((Blk.keep HB1.out hb2).alloc (.cells t.cells 71));have HG2:=lh (eF (eW HG1.out (eX hb2 (some b))) (.cells t.cells 71));have HN:=lh (Blk.new w2 71 t.cells);have hb2s:=hb2.size;have HNs:Hid (b≠w2.heap.size):=lh (by omega);have HNr:Hid (w.heap.size≠w2.heap.size):=lh (by have:=HR1.out.lt;omega);clear hb2 HW HR1 HB1 HG1;unfold St.cells at HR2 HB2 HG2 HN ⊢;go_wp2_with fail;generalize (w2.alloc (.cells #[↑t.sent,↑t.first,↑t.deliv,↑t.at_,.bool t.lim] 71))=wa at *;have n0:=HN.out.cell (i:=0) (v:=↑t.sent) rfl;have b1:=Blk.cell HB2.out (i:=1) (v:=↑s.last) rfl;have b2:=Blk.cell HB2.out (i:=2) (v:=↑s.first) rfl;have f1:=Blk.free HB2.out 1;have f2:=Blk.free HB2.out 2;have n0d:=aM n0;go_region_held3 (fun w'=>w'.cell? ⟨w2.heap.size,0,none⟩=some ↑t.sent)
    (first | with_reducible exact n0d | with_reducible exact zJ n0d HNs.out.symm | with_reducible exact zJ (zJ n0d HNs.out.symm) HNs.out.symm | with_reducible exact aM (zJ n0 HNs.out.symm) | with_reducible exact aM (zJ (zJ n0 HNs.out.symm) HNs.out.symm))
    (first | fail)
   have HR3:=lh (((HR2.out.set_other 1 ↑now HNb.out).set_other 2 ↑t.sent HNb.out).drew);have HB3:Hid (iE _ b ⟨m,now,t.sent,s.mark⟩):=lh (((Blk.set HB2.out 1 ↑now).set 2 ↑t.sent).drew);have HN3:=lh (((HN.out.set_other 1 ↑now HNs.out.symm).set_other 2 ↑t.sent HNs.out.symm).drew);have HG3:=lh (dP (bI (bI HG2.out 1 ↑now) 2 ↑t.sent));generalize ((wa.setCell ⟨b,1,none⟩ ↑now).setCell ⟨b,2,none⟩ ↑t.sent).drew=wb at *;clear HR2 HB2 HN HG2 n0 n0d b1 b2 f1 f2;have b0:=Blk.cell HB3.out (i:=0) (v:=↑m) rfl;have b3:=Blk.cell HB3.out (i:=3) (v:=↑s.mark) rfl;have f3:=Blk.free HB3.out 3;have HSm:Hid (∀w,Calls prog 117 #[↑now,↑m,.agg #[↑t.sent,↑t.first,↑t.deliv,↑t.at_,.bool t.lim]] w fun e w'=>e=.returned (.agg #[↑x2.deliv,↑x2.interval,↑x2.rate,↑x2.rtt,.bool x2.lim])∧Below ↑w w w'):=lh (fun w=>by rw [HY.out];exact yS now m t w hnow hM HTo);clear HTo HY;by_cases hd:s.mark < m
   ·have HD:=lh (show lO m s.mark=0 by unfold lO;rw [if_pos hd])
    have hq:decide (s.mark < m)=true:=by simpa using hd
    clear hd;go_wp2_with fail;go_region
    go_wp2_with fail;have HR4:=lh ((HR3.out.set_other 3 ↑ζ HNb.out).drew);have HB4:Hid (iE _ b s2):=lh (by rw [HX.out];rw [HD.out];exact (Blk.set HB3.out 3 ↑ζ).drew);have HN4:=lh ((HN3.out.set_other 3 ↑ζ HNs.out.symm).drew);have HG4:=lh (dP (bI HG3.out 3 ↑ζ));generalize (wb.setCell ⟨b,3,none⟩ ↑ζ).drew=wd at *;clear HR3 HB3 HN3 HG3 b0 b3 f3;have HC0:Hid (s2.cells[0]? =some (.int .u64 (m:Int))):=lh (by rw [HX.out];rfl);have b0:=Blk.cell HB4.out (i:=0) (v:=↑m) HC0.out;have k0:=HN4.out.cell (i:=0) (v:=↑t.sent) rfl;have k1:=HN4.out.cell (i:=1) (v:=↑t.first) rfl;have k2:=HN4.out.cell (i:=2) (v:=↑t.deliv) rfl;have k3:=HN4.out.cell (i:=3) (v:=↑t.at_) rfl;have k4:=HN4.out.cell (i:=4) (v:=.bool t.lim) rfl;have cb0:=aM b0;have ck0:=aM k0;have ck1:=aM k1;have ck2:=aM k2;have ck3:=aM k3;have ck4:=aM k4;go_wp2_with fail;go_region_held3 (fun w'=>w'.cell? ⟨b,0,none⟩=some ↑m∧w'.cell? ⟨w2.heap.size,0,none⟩=some ↑t.sent∧w'.cell? ⟨w2.heap.size,1,none⟩=some ↑t.first∧w'.cell? ⟨w2.heap.size,2,none⟩=some ↑t.deliv∧w'.cell? ⟨w2.heap.size,3,none⟩=some ↑t.at_∧w'.cell? ⟨w2.heap.size,4,none⟩=some (.bool t.lim))
     (first | with_reducible exact ⟨cb0,ck0,ck1,ck2,ck3,ck4⟩ | with_reducible exact ⟨g0,j0,j1,j2,j3,j4⟩ | with_reducible exact ⟨j5 g0 HNb.out.symm,j5 j0 HNr.out.symm,j5 j1 HNr.out.symm,j5 j2 HNr.out.symm,j5 j3 HNr.out.symm,j5 j4 HNr.out.symm⟩)
     (first | (go_at_call 117;refine (HSm.out _).mono ?_;rintro e w5 ⟨rfl,hb5⟩;have D0:=lh (HR4.out.drew.keep hb5);have D1:=lh ((Blk.drew HB4.out).keep hb5);have D2:=lh (HN4.out.drew.keep hb5);have D3:=lh (eW (dP HG4.out) (eX hb5 (some b)));clear hb5;have g0:=D1.out.cell (i:=0) (v:=↑m) HC0.out;have j0:=D2.out.cell (i:=0) (v:=↑t.sent) rfl;have j1:=D2.out.cell (i:=1) (v:=↑t.first) rfl;have j2:=D2.out.cell (i:=2) (v:=↑t.deliv) rfl;have j3:=D2.out.cell (i:=3) (v:=↑t.at_) rfl;have j4:=D2.out.cell (i:=4) (v:=.bool t.lim) rfl;have t0:=D0.out.cell (i:=0) (v:=↑ζ) rfl;have y0:=D0.out.free 0;have t1:=D0.out.cell (i:=1) (v:=↑ζ) rfl;have y1:=D0.out.free 1;have t2:=D0.out.cell (i:=2) (v:=↑ζ) rfl;have y2:=D0.out.free 2;have t3:=D0.out.cell (i:=3) (v:=↑ζ) rfl;have y3:=D0.out.free 3;have t4:=D0.out.cell (i:=4) (v:=.bool false) rfl;have y4:=D0.out.free 4))
    have F1:=lh (Blk.whole [↑x2.deliv,↑x2.interval,↑x2.rate,↑x2.rtt,.bool x2.lim] D0.out rfl);have F2:=lh (Blk.sets_other (g:=w.heap.size) HNb.out.symm [↑x2.deliv,↑x2.interval,↑x2.rate,↑x2.rtt,.bool x2.lim] 0 _ D1.out);have F3:=lh (fA (Nat.le_refl _) [↑x2.deliv,↑x2.interval,↑x2.rate,↑x2.rtt,.bool x2.lim] 0 _ D3.out);go_wp2_with fail;exact bodyPost_ret (aF rfl _ _ w.heap.size 130 _ _ rfl F1.out underlying130 rfl (by kernel_rfl)) rfl ⟨rfl,F2.out,F3.out⟩
   ·have HD:=lh (show lO m s.mark=s.mark by unfold lO;rw [if_neg hd])
    have hq:decide (s.mark < m)=false:=by simpa using hd
    clear hd;go_wp2_with fail;go_region
    go_wp2_with fail;have HR4:=lh (HR3.out.drew);have HB4:Hid (iE _ b s2):=lh (by rw [HX.out];rw [HD.out];exact Blk.drew HB3.out);have HN4:=lh (HN3.out.drew);have HG4:=lh (dP HG3.out);generalize wb.drew=wd at *;clear HR3 HB3 HN3 HG3 b0 b3 f3;have HC0:Hid (s2.cells[0]? =some (.int .u64 (m:Int))):=lh (by rw [HX.out];rfl);have b0:=Blk.cell HB4.out (i:=0) (v:=↑m) HC0.out;have k0:=HN4.out.cell (i:=0) (v:=↑t.sent) rfl;have k1:=HN4.out.cell (i:=1) (v:=↑t.first) rfl;have k2:=HN4.out.cell (i:=2) (v:=↑t.deliv) rfl;have k3:=HN4.out.cell (i:=3) (v:=↑t.at_) rfl;have k4:=HN4.out.cell (i:=4) (v:=.bool t.lim) rfl;have cb0:=aM b0;have ck0:=aM k0;have ck1:=aM k1;have ck2:=aM k2;have ck3:=aM k3;have ck4:=aM k4;go_wp2_with fail;go_region_held3 (fun w'=>w'.cell? ⟨b,0,none⟩=some ↑m∧w'.cell? ⟨w2.heap.size,0,none⟩=some ↑t.sent∧w'.cell? ⟨w2.heap.size,1,none⟩=some ↑t.first∧w'.cell? ⟨w2.heap.size,2,none⟩=some ↑t.deliv∧w'.cell? ⟨w2.heap.size,3,none⟩=some ↑t.at_∧w'.cell? ⟨w2.heap.size,4,none⟩=some (.bool t.lim))
     (first | with_reducible exact ⟨cb0,ck0,ck1,ck2,ck3,ck4⟩ | with_reducible exact ⟨g0,j0,j1,j2,j3,j4⟩ | with_reducible exact ⟨j5 g0 HNb.out.symm,j5 j0 HNr.out.symm,j5 j1 HNr.out.symm,j5 j2 HNr.out.symm,j5 j3 HNr.out.symm,j5 j4 HNr.out.symm⟩)
     (first | (go_at_call 117;refine (HSm.out _).mono ?_;rintro e w5 ⟨rfl,hb5⟩;have D0:=lh (HR4.out.drew.keep hb5);have D1:=lh ((Blk.drew HB4.out).keep hb5);have D2:=lh (HN4.out.drew.keep hb5);have D3:=lh (eW (dP HG4.out) (eX hb5 (some b)));clear hb5;have g0:=D1.out.cell (i:=0) (v:=↑m) HC0.out;have j0:=D2.out.cell (i:=0) (v:=↑t.sent) rfl;have j1:=D2.out.cell (i:=1) (v:=↑t.first) rfl;have j2:=D2.out.cell (i:=2) (v:=↑t.deliv) rfl;have j3:=D2.out.cell (i:=3) (v:=↑t.at_) rfl;have j4:=D2.out.cell (i:=4) (v:=.bool t.lim) rfl;have t0:=D0.out.cell (i:=0) (v:=↑ζ) rfl;have y0:=D0.out.free 0;have t1:=D0.out.cell (i:=1) (v:=↑ζ) rfl;have y1:=D0.out.free 1;have t2:=D0.out.cell (i:=2) (v:=↑ζ) rfl;have y2:=D0.out.free 2;have t3:=D0.out.cell (i:=3) (v:=↑ζ) rfl;have y3:=D0.out.free 3;have t4:=D0.out.cell (i:=4) (v:=.bool false) rfl;have y4:=D0.out.free 4))
    have F1:=lh (Blk.whole [↑x2.deliv,↑x2.interval,↑x2.rate,↑x2.rtt,.bool x2.lim] D0.out rfl);have F2:=lh (Blk.sets_other (g:=w.heap.size) HNb.out.symm [↑x2.deliv,↑x2.interval,↑x2.rate,↑x2.rtt,.bool x2.lim] 0 _ D1.out);have F3:=lh (fA (Nat.le_refl _) [↑x2.deliv,↑x2.interval,↑x2.rate,↑x2.rtt,.bool x2.lim] 0 _ D3.out);go_wp2_with fail;exact bodyPost_ret (aF rfl _ _ w.heap.size 130 _ _ rfl F1.out underlying130 rfl (by kernel_rfl)) rfl ⟨rfl,F2.out,F3.out⟩
end

section
open Go.RowKit
def fY (v:Option Addr) (L:List Nat):Prop:=∀a,v=some a→a.block ∉ L
theorem fY.none (L:List Nat):fY none L:=fun a h=>by cases h
theorem Its.frl {α:Type} [Itm α] {v:Option Addr} {l:List α} (h:Its w v l) (k:Fr w w' L) (ha:fY v L):Its w' v l:=by
 intro hp;obtain ⟨b,off,e,hb,hc⟩:=h hp;refine ⟨b,off,e,Nat.lt_of_lt_of_le hb k.size,fun i j hi hj=>?_⟩;rw [← hc i j hi hj];have:=k.block b hb (ha _ e);simp [World.cell?,this]
structure LP where
 b:Nat
 kb:Nat
 qb:Nat
 qr:Nat
 qg:Nat
 jb:Nat
 jr:Nat
 jg:Nat
def LP.l (p:LP):List Nat:=[p.b,p.kb,p.qb,p.qr,p.qg,p.jb,p.jr,p.jg]
def LP.at_ (p:LP) (g h:Nat):LP:=⟨p.b,p.kb,p.qb,p.qr,g,p.jb,p.jr,h⟩
def LKS.cells (s:LKS) (p:LP):Array Value:=#[↑s.rate,↑s.delay,↑s.jit,↑s.buf,↑(π p.kb),↑(π p.qb),↑(π p.jb),↑s.t,↑(LKS.hi s.came),↑(LKS.lo s.came),↑(LKS.hi s.served),↑(LKS.lo s.served),↑(LKS.hi s.deliv),↑(LKS.lo s.deliv)]
theorem gJ (s:LKS) (p:LP) (g h:Nat):s.cells (p.at_ g h)=s.cells p:=rfl
theorem JY (s:LKS) (p:LP) (k:KB):(s.withK k).cells p=s.cells p:=rfl
theorem JZ (s:LKS) (p:LP) (q:QK):(s.withQ q).cells p=s.cells p:=rfl
theorem J4 (s:LKS) (p:LP) (j:BxS):(s.withJ j).cells p=s.cells p:=rfl
theorem wq (s:LKS) (q:QK):(s.withQ q).k=s.k∧(s.withQ q).q=q∧(s.withQ q).j=s.j:=⟨rfl,rfl,rfl⟩
structure cY (w:World) (p:LP) (s:LKS):Prop where
 head:Blk w p.b 91 (s.cells p)
 k:Blk w p.kb 217 s.k.cells
 q:QAt w p.qb p.qr p.qg s.q
 j:dX w p.jb p.jr p.jg s.j
theorem cY.keep {w w':World} {p:LP} {s:LKS} (h:cY w p s) (k:Below ↑w w w'):cY w' p s:=⟨h.head.keep k,h.k.keep k,h.q.keep k,h.j.keep k⟩
theorem cY.lt {w:World} {p:LP} {s:LKS} (h:cY w p s):∀x∈p.l,x < w.heap.size:=by
 have a1:=h.head.lt;have a2:=h.k.lt;have a3:=h.q.lt;have a4:=h.j.lt;intro x hx;simp [LP.l] at hx
 omega
theorem cY.ne {p:LP} {s:LKS} (h:cY w p s):p.b≠p.kb∧p.b≠p.qb∧p.b≠p.qr∧p.b≠p.qg∧p.b≠p.jb∧p.b≠p.jr∧p.b≠p.jg∧p.kb≠p.qb∧p.kb≠p.qr∧p.kb≠p.qg∧p.kb≠p.jb∧p.kb≠p.jr∧p.kb≠p.jg∧p.qb≠p.qr∧p.qb≠p.qg∧p.qb≠p.jb∧p.qb≠p.jr∧p.qb≠p.jg∧p.qr≠p.qg∧p.qr≠p.jb∧p.qr≠p.jr∧p.qr≠p.jg∧p.qg≠p.jb∧p.qg≠p.jr∧p.qg≠p.jg∧p.jb≠p.jr∧p.jb≠p.jg∧p.jr≠p.jg:=by
 have hb:=h.head;have hkb:=h.k;have hqb:=h.q.head;obtain ⟨_,hqr⟩:=h.q.row.head;obtain ⟨_,hqg⟩:=h.q.row.body;have hjb:=h.j.head;obtain ⟨_,hjr⟩:=h.j.row.head;obtain ⟨_,hjg⟩:=h.j.row.body;exact ⟨hb.ty hkb (by decide),hb.ty hqb (by decide),hb.ty hqr (by decide),hb.ty hqg (by decide),hb.ty hjb (by decide),hb.ty hjr (by decide),hb.ty hjg (by decide),hkb.ty hqb (by decide),hkb.ty hqr (by decide),hkb.ty hqg (by decide),hkb.ty hjb (by decide),hkb.ty hjr (by decide),hkb.ty hjg (by decide),hqb.ty hqr (by decide),hqb.ty hqg (by decide),hqb.ty hjb (by decide),hqb.ty hjr (by decide),hqb.ty hjg (by decide),hqr.ty hqg (by decide),hqr.ty hjb (by decide),hqr.ty hjr (by decide),hqr.ty hjg (by decide),hqg.ty hjb (by decide),hqg.ty hjr (by decide),hqg.ty hjg (by decide),hjb.ty hjr (by decide),hjb.ty hjg (by decide),hjr.ty hjg (by decide)⟩
theorem cY.fr {w w':World} {p:LP} {s:LKS} {L:List Nat} (h:cY w p s) (k:Fr w w' L) (hn:∀x∈p.l,x ∉ L):cY w' p s:=by
 have m:∀x,x∈p.l→x ∉ L:=hn;exact ⟨h.head.fr k (m _ (by simp [LP.l])),h.k.fr k (m _ (by simp [LP.l])),h.q.fr k (m _ (by simp [LP.l])) (m _ (by simp [LP.l])) (m _ (by simp [LP.l])),h.j.fr k (m _ (by simp [LP.l])) (m _ (by simp [LP.l])) (m _ (by simp [LP.l]))⟩
theorem nm1 {x:Nat} (h:a≠x):a ∉ [x]:=by simp [h]
theorem nm3 {x y:Nat} (h:a≠x) (k:a≠y) (m:a≠z):a ∉ [x,y,z]:=by simp [h,k,m]
theorem RT {b:Nat} {s:KB} {e:Ending} (k:hG w b r s e w'):Fr w w' [b]:=QD k.gr (fun x hx=>by cases hx;simp)
structure LI (W:World) (p:LP) (s:LKS) (w:World):Prop where
 at_:∃g h,cY w (p.at_ g h) s∧(g=p.qg∨W.heap.size≤g)∧(h=p.jg∨W.heap.size≤h)
 fr:Fr W w p.l
 lo:∀x∈p.l,x < W.heap.size
theorem LI.start {p:LP} {s:LKS} (h:cY W p s):LI W p s W:=⟨⟨p.qg,p.jg,h,.inl rfl,.inl rfl⟩,Fr.refl _ _,h.lt⟩
theorem LI.to {p:LP} {s:LKS} (h:LI W p s w) (k:Below ↑w w w'):LI W p s w':=by
 obtain ⟨g,i,h1,h2⟩:=h.at_;exact ⟨⟨g,i,h1.keep k,h2⟩,h.fr.below k,h.lo⟩
theorem LI.drew {W w:World} {p:LP} {s:LKS} (h:LI W p s w):LI W p s w.drew:=h.to ((aB.drew w).below _)
theorem LI.al {p:LP} {s:LKS} (h:LI W p s w) (o:Obj):LI W p s (w.alloc o):=h.to (aC _ _)
theorem LI.k {W w w':World} {p:LP} {s:LKS} {r:Value} {k':KB} {e:Ending} (h:LI W p s w) (k:hG w p.kb r k' e w'):LI W p (s.withK k') w':=by
 have f:=RT k;obtain ⟨g,i,h1,h2⟩:=h.at_;refine ⟨⟨g,i,?_,h2⟩,h.fr.trans f (fun x hx=>by simp [LP.l] at hx ⊢;omega),h.lo⟩;obtain ⟨n_b_kb,n_b_qb,n_b_qr,n_b_qg,n_b_jb,n_b_jr,n_b_jg,n_kb_qb,n_kb_qr,n_kb_qg,n_kb_jb,n_kb_jr,n_kb_jg,n_qb_qr,n_qb_qg,n_qb_jb,n_qb_jr,n_qb_jg,n_qr_qg,n_qr_jb,n_qr_jr,n_qr_jg,n_qg_jb,n_qg_jr,n_qg_jg,n_jb_jr,n_jb_jg,n_jr_jg⟩:=h1.ne;exact ⟨by rw [JY];exact h1.head.fr f (nm1 n_b_kb),k.blk,h1.q.fr f (nm1 n_kb_qb.symm) (nm1 n_kb_qr.symm) (nm1 n_kb_qg.symm),h1.j.fr f (nm1 n_kb_jb.symm) (nm1 n_kb_jr.symm) (nm1 n_kb_jg.symm)⟩
theorem LI.q {p:LP} {s:LKS} {q':QK} {e:Ending} (h:LI W p s w) (h1:cY w (p.at_ g i) s) (h2:(g=p.qg∨W.heap.size≤g)∧(i=p.jg∨W.heap.size≤i)) (k:eH w p.qb p.qr g r q' e w'):LI W p (s.withQ q') w':=by
 have f:=k.fr;obtain ⟨g',k1,k2⟩:=k.at_;have sz:=h.fr.size;refine ⟨⟨g',i,?_,by omega,h2.2⟩,h.fr.trans f (fun x hx=>by simp [LP.l] at hx ⊢;omega),h.lo⟩;obtain ⟨n_b_kb,n_b_qb,n_b_qr,n_b_qg,n_b_jb,n_b_jr,n_b_jg,n_kb_qb,n_kb_qr,n_kb_qg,n_kb_jb,n_kb_jr,n_kb_jg,n_qb_qr,n_qb_qg,n_qb_jb,n_qb_jr,n_qb_jg,n_qr_qg,n_qr_jb,n_qr_jr,n_qr_jg,n_qg_jb,n_qg_jr,n_qg_jg,n_jb_jr,n_jb_jg,n_jr_jg⟩:=h1.ne;exact ⟨by rw [JZ,gJ,← gJ s p g i];exact h1.head.fr f (nm3 n_b_qb n_b_qr n_b_qg),h1.k.fr f (nm3 n_kb_qb n_kb_qr n_kb_qg),k1,h1.j.fr f (nm3 n_qb_jb.symm n_qr_jb.symm n_qg_jb.symm) (nm3 n_qb_jr.symm n_qr_jr.symm n_qg_jr.symm) (nm3 n_qb_jg.symm n_qr_jg.symm n_qg_jg.symm)⟩
theorem LI.j {p:LP} {s:LKS} {j':BxS} (h:LI W p s w) (h1:cY w (p.at_ g i) s) (h2:(g=p.qg∨W.heap.size≤g)∧(i=p.jg∨W.heap.size≤i)) (k:∃i',dX w' p.jb p.jr i' j'∧(i'=i∨w.heap.size≤i')) (f:Fr w w' [p.jb,p.jr,i]):LI W p (s.withJ j') w':=by
 obtain ⟨i',k1,k2⟩:=k;have sz:=h.fr.size;refine ⟨⟨g,i',?_,h2.1,by omega⟩,h.fr.trans f (fun x hx=>by simp [LP.l] at hx ⊢;omega),h.lo⟩;obtain ⟨n_b_kb,n_b_qb,n_b_qr,n_b_qg,n_b_jb,n_b_jr,n_b_jg,n_kb_qb,n_kb_qr,n_kb_qg,n_kb_jb,n_kb_jr,n_kb_jg,n_qb_qr,n_qb_qg,n_qb_jb,n_qb_jr,n_qb_jg,n_qr_qg,n_qr_jb,n_qr_jr,n_qr_jg,n_qg_jb,n_qg_jr,n_qg_jg,n_jb_jr,n_jb_jg,n_jr_jg⟩:=h1.ne;exact ⟨by rw [J4,gJ,← gJ s p g i];exact h1.head.fr f (nm3 n_b_jb n_b_jr n_b_jg),h1.k.fr f (nm3 n_kb_jb n_kb_jr n_kb_jg),h1.q.fr f (nm3 n_qb_jb n_qb_jr n_qb_jg) (nm3 n_qr_jb n_qr_jr n_qr_jg) (nm3 n_qg_jb n_qg_jr n_qg_jg),k1⟩
theorem LI.hd {p:LP} {s s':LKS} (h:LI W p s w) (f:Fr w w' [p.b]) (hb:∀cs,Blk w p.b 91 cs→cs=s.cells p→Blk w' p.b 91 (s'.cells p)) (h3:s.k=s'.k∧s.q=s'.q∧s.j=s'.j):LI W p s' w':=by
 obtain ⟨g,i,h1,h2⟩:=h.at_;obtain ⟨e1,e2,e3⟩:=h3;refine ⟨⟨g,i,?_,h2⟩,h.fr.trans f (fun x hx=>by simp [LP.l] at hx ⊢;omega),h.lo⟩;obtain ⟨n_b_kb,n_b_qb,n_b_qr,n_b_qg,n_b_jb,n_b_jr,n_b_jg,n_kb_qb,n_kb_qr,n_kb_qg,n_kb_jb,n_kb_jr,n_kb_jg,n_qb_qr,n_qb_qg,n_qb_jb,n_qb_jr,n_qb_jg,n_qr_qg,n_qr_jb,n_qr_jr,n_qr_jg,n_qg_jb,n_qg_jr,n_qg_jg,n_jb_jr,n_jb_jg,n_jr_jg⟩:=h1.ne;exact ⟨by rw [gJ];exact hb _ h1.head (gJ s p g i),e1▸h1.k.fr f (nm1 n_b_kb.symm),e2▸h1.q.fr f (nm1 n_b_qb.symm) (nm1 n_b_qr.symm) (nm1 n_b_qg.symm),e3▸h1.j.fr f (nm1 n_b_jb.symm) (nm1 n_b_jr.symm) (nm1 n_b_jg.symm)⟩
theorem LI.set {W w:World} {p:LP} {s s':LKS} (h:LI W p s w) (i:Nat) (u:Value) (he:(s.cells p).setIfInBounds i u=s'.cells p) (h3:s.k=s'.k∧s.q=s'.q∧s.j=s'.j):LI W p s' (w.setCell ⟨p.b,i,none⟩ u):=
 h.hd ((Fr.refl _ _).set (.inl (by simp)) i u) (fun cs hb hc=>by rw [← he,← hc];exact hb.set i u) h3
theorem LI.set2 {p:LP} {s s':LKS} (h:LI W p s w) (i j:Nat) (u v:Value) (he:((s.cells p).setIfInBounds i u).setIfInBounds j v=s'.cells p) (h3:s.k=s'.k∧s.q=s'.q∧s.j=s'.j):LI W p s' ((w.setCell ⟨p.b,i,none⟩ u).setCell ⟨p.b,j,none⟩ v):=
 h.hd (((Fr.refl _ _).set (.inl (by simp)) i u).set (.inl (by simp)) j v) (fun cs hb hc=>by rw [← he,← hc];exact (hb.set i u).set j v) h3
theorem LI.cell {W w:World} {p:LP} {s:LKS} (h:LI W p s w) {i:Nat} {v:Value} (hv:∀p,(s.cells p)[i]? =some v):w.cell? ⟨p.b,i,none⟩=some v:=by
 obtain ⟨g,j,h1,_⟩:=h.at_;exact h1.head.cell (hv _)
theorem LI.kp {p:LP} {s:LKS} (h:LI W p s w):w.cell? ⟨p.b,4,none⟩=some ↑(π p.kb)∧w.cell? ⟨p.b,5,none⟩=some ↑(π p.qb)∧w.cell? ⟨p.b,6,none⟩=some ↑(π p.jb):=by
 obtain ⟨g,j,h1,_⟩:=h.at_;exact ⟨h1.head.cell rfl,h1.head.cell rfl,h1.head.cell rfl⟩
theorem LI.free {W w:World} {p:LP} {s:LKS} (h:LI W p s w) (i:Nat):w.frozen? ⟨p.b,i,none⟩=false:=by
 obtain ⟨g,j,h1,_⟩:=h.at_;exact h1.head.free i
theorem LI.trans {W w w':World} {p:LP} {s s':LKS} {g i:Nat} (h:LI W p s w) (h1:cY w (p.at_ g i) s) (h2:(g=p.qg∨W.heap.size≤g)∧(i=p.jg∨W.heap.size≤i)) (k:LI w (p.at_ g i) s' w'):LI W p s' w':=by
 obtain ⟨g',i',k1,k2,k3⟩:=k.at_;have sz:=h.fr.size;refine ⟨⟨g',i',k1,?_,?_⟩,h.fr.trans k.fr (fun x hx=>?_),h.lo⟩
 ·simp [LP.at_] at k2;omega
 ·simp [LP.at_] at k3;omega
 ·simp [LP.l,LP.at_] at hx ⊢;omega
structure LX (W:World) (p:LP) (z:Nat) (T:TypeId) (cs:Array Value) (s:LKS) (w:World):Prop where
 at_:∃g h,cY w (p.at_ g h) s∧(g=p.qg∨W.heap.size≤g)∧(h=p.jg∨W.heap.size≤h)∧g≠z∧h≠z
 fr:Fr W w p.l
 lo:∀x∈p.l,x < W.heap.size
 box:Blk w z T cs
 zl:↑W≤z
theorem LX.li {p:LP} {s:LKS} (h:LX W p z T cs s w):LI W p s w:=by
 obtain ⟨g,i,h1,h2,h3,_⟩:=h.at_;exact ⟨⟨g,i,h1,h2,h3⟩,h.fr,h.lo⟩
theorem LI.box {p:LP} {s:LKS} (h:LI W p s w) (cs:Array Value) (T:TypeId):LX W p w.heap.size T cs s (w.alloc (.cells cs T)):=by
 obtain ⟨g,i,h1,h2,h3⟩:=h.at_;have lt:=h1.lt;simp [LP.l,LP.at_] at lt
 have h4:=h.al (.cells cs T);exact ⟨⟨g,i,h1.keep (aC _ _),h2,h3,by omega,by omega⟩,h4.fr,h.lo,Blk.new _ _ _,h.fr.size⟩
theorem LX.of {p:LP} {s s':LKS} {L:List Nat} (h:LX W p z T cs s w) (g i:Nat) (h1:cY w (p.at_ g i) s) (h2:(g=p.qg∨W.heap.size≤g)∧(i=p.jg∨W.heap.size≤i)) (h3:g≠z∧i≠z) (k:LI w (p.at_ g i) s' w'):LX W p z T cs s' w':=by
 have k0:=h.li.trans h1 h2 k;obtain ⟨g',i',k1,k2,k3⟩:=k.at_;have zl:=h.box.lt;have lo:=h.lo;have z2:=h.zl;have sz:=h.fr.size;simp [LP.l] at lo
 simp [LP.at_] at k2 k3
 refine ⟨⟨g',i',k1,by omega,by omega,by omega,by omega⟩,k0.fr,h.lo,h.box.fr k.fr (by simp [LP.l,LP.at_];omega),h.zl⟩
theorem LX.ex {p:LP} {s:LKS} (h:LX W p z T cs s w):∃g i,cY w (p.at_ g i) s∧((g=p.qg∨W.heap.size≤g)∧(i=p.jg∨W.heap.size≤i))∧(g≠z∧i≠z):=by
 obtain ⟨g,i,h1,h2,h3,h4⟩:=h.at_;exact ⟨g,i,h1,⟨h2,h3⟩,h4⟩
theorem LX.to {p:LP} {s:LKS} (h:LX W p z T cs s w) (k:Below ↑w w w'):LX W p z T cs s w':=by
 obtain ⟨g,i,h1,h2⟩:=h.at_;exact ⟨⟨g,i,h1.keep k,h2⟩,h.fr.below k,h.lo,h.box.keep k,h.zl⟩
theorem LX.drew {W w:World} {p:LP} {z:Nat} {T:TypeId} {cs:Array Value} {s:LKS} (h:LX W p z T cs s w):LX W p z T cs s w.drew:=h.to ((aB.drew w).below _)
theorem LX.k {W w w':World} {p:LP} {z:Nat} {T:TypeId} {cs:Array Value} {s:LKS} {r:Value} {k':KB} {e:Ending} (h:LX W p z T cs s w) (k:hG w p.kb r k' e w'):LX W p z T cs (s.withK k') w':=by
 obtain ⟨g,i,h1,h2,h3⟩:=h.ex;exact h.of (L:=[]) g i h1 h2 h3 ((LI.start h1).k k)
theorem LX.q {W w w':World} {p:LP} {z g i:Nat} {T:TypeId} {cs:Array Value} {s:LKS} {r:Value} {q':QK} {e:Ending} (h:LX W p z T cs s w) (h1:cY w (p.at_ g i) s) (h2:(g=p.qg∨W.heap.size≤g)∧(i=p.jg∨W.heap.size≤i)) (h3:g≠z∧i≠z) (k:eH w p.qb p.qr g r q' e w'):LX W p z T cs (s.withQ q') w':=
 h.of (L:=[]) g i h1 h2 h3 ((LI.start h1).q (p:=p.at_ g i) h1 ⟨.inl rfl,.inl rfl⟩ k)
theorem LX.j {W w w':World} {p:LP} {z g i:Nat} {T:TypeId} {cs:Array Value} {s:LKS} {j':BxS} (h:LX W p z T cs s w) (h1:cY w (p.at_ g i) s) (h2:(g=p.qg∨W.heap.size≤g)∧(i=p.jg∨W.heap.size≤i)) (h3:g≠z∧i≠z) (k:∃i',dX w' p.jb p.jr i' j'∧(i'=i∨w.heap.size≤i')) (f:Fr w w' [p.jb,p.jr,i]):LX W p z T cs (s.withJ j') w':=
 h.of (L:=[]) g i h1 h2 h3 ((LI.start h1).j (p:=p.at_ g i) h1 ⟨.inl rfl,.inl rfl⟩ k f)
theorem LX.set {W w:World} {p:LP} {z:Nat} {T:TypeId} {cs:Array Value} {s s':LKS} (h:LX W p z T cs s w) (i:Nat) (u:Value) (he:(s.cells p).setIfInBounds i u=s'.cells p) (h3:s.k=s'.k∧s.q=s'.q∧s.j=s'.j):LX W p z T cs s' (w.setCell ⟨p.b,i,none⟩ u):=by
 obtain ⟨g,m,h1,h2,h4⟩:=h.ex;exact h.of (L:=[]) g m h1 h2 h4 ((LI.start h1).set i u he h3)
theorem LX.set2 {W w:World} {p:LP} {z:Nat} {T:TypeId} {cs:Array Value} {s s':LKS} (h:LX W p z T cs s w) (i j:Nat) (u v:Value) (he:((s.cells p).setIfInBounds i u).setIfInBounds j v=s'.cells p) (h3:s.k=s'.k∧s.q=s'.q∧s.j=s'.j):LX W p z T cs s' ((w.setCell ⟨p.b,i,none⟩ u).setCell ⟨p.b,j,none⟩ v):=by
 obtain ⟨g,m,h1,h2,h4⟩:=h.ex;exact h.of (L:=[]) g m h1 h2 h4 ((LI.start h1).set2 i j u v he h3)
theorem LX.boxed {p:LP} {s:LKS} (h:LX W p z T cs s w) (ds:List Value) (hl:ds.length=cs.size):LX W p z T ds.toArray s (w.setCells z 0 ds):=by
 obtain ⟨g,i,h1,h2,h3⟩:=h.ex;have f:Fr w (w.setCells z 0 ds) [z]:=Fr.sets (.inl (by simp)) ds 0 w (Fr.refl _ _);have zl:=h.zl;have lo:=h.lo;have k:=h1.fr f (fun x hx=>by
  simp [LP.l,LP.at_] at hx ⊢
  simp [LP.l] at lo
  omega)
 exact ⟨⟨g,i,k,h2.1,h2.2,h3⟩,h.fr.trans f (fun x hx=>by simp at hx;omega),h.lo,h.box.whole ds hl,h.zl⟩
structure D8 (W:World) (p:LP) (r:Value) (s:LKS) (e:Ending) (w:World):Prop where
 e:e=.returned r
 li:LI W p s w

theorem QE (t:Nat):LKS.lo t≤18446744073709551615:=by unfold LKS.lo;omega
theorem QF {t:Nat} (ht:t≤1267650600228229401496703205376):LKS.hi t≤18446744073709551615:=by unfold LKS.hi;omega
theorem wX (t n:Nat) (W:World) (ht:t≤1267650600228229401496703205376) (hn:n≤↑ω):
  Calls prog 135 #[.agg #[↑(LKS.hi t),↑(LKS.lo t)],↑n] W fun e w'=>e=.returned (.agg #[↑(LKS.hi (t + n)),↑(LKS.lo (t + n))])∧Below ↑W W w':=by
 have hrun:=fun w=>kL (LKS.lo t:Int) (n:Int) (by omega) (by omega) w;have e1:((LKS.lo t:Int) + (n:Int) + 0) % 18446744073709551616=(LKS.lo (t + n):Int):=by unfold LKS.lo;omega
 have e2:((LKS.lo t:Int) + (n:Int) + 0) / 18446744073709551616=(((LKS.lo t + n) / 18446744073709551616:Nat):Int):=by omega
 have e3:(LKS.hi t:Int) + (((LKS.lo t + n) / 18446744073709551616:Nat):Int)=(LKS.hi (t + n):Int):=by unfold LKS.hi LKS.lo;omega
 have e4:IntKind.u64.wrap (LKS.hi (t + n):Int)=(LKS.hi (t + n):Int):=by rw [IntKind.wrap_u64];unfold LKS.hi;omega
 rw [e1,e2] at hrun;clear e1 e2 ht hn;generalize (LKS.lo t + n) / 18446744073709551616=c at *;generalize LKS.hi (t + n)=h' at *;generalize LKS.lo (t + n)=l' at *;generalize LKS.hi t=h at *;generalize LKS.lo t=l at *;go_enter func135,ntmps135;go_wp2;exact bodyPost_ret (aI rfl _ _ _ 89 _ _ rfl (Blk.new1 _ _ _ _) underlying89 rfl (by kernel_rfl)) rfl ⟨rfl,((Below.refl _ _).alloc (Nat.le_refl _) _).alloc (by simp) _⟩
theorem zL (a b:Nat) (ha:a≤↑ω) (w:World):
  (callFunc 81 #[.int .u64 a,.int .u64 b,↑ζ]).run prog w=.ok (.value (.tuple #[↑((a + 18446744073709551616 - b) % 18446744073709551616:Nat),↑(if a < b then 1 else 0:Nat)])) w:=by
 by_cases h:b≤a
 ·rw [eK.1 a b h ha w,if_neg (by omega),show (a + 18446744073709551616 - b) % 18446744073709551616=a - b by omega];rfl
 ·rw [eK.2 a b (by omega) ha w,if_pos (by omega),Nat.sub_zero];rfl
theorem J5 (t u:Nat) (W:World) (ht:t≤1267650600228229401496703205376) (hu:u≤t):
  Calls prog 40 #[.agg #[↑(LKS.hi t),↑(LKS.lo t)],.agg #[↑(LKS.hi u),↑(LKS.lo u)]] W fun e w'=>e=.returned (.agg #[↑(LKS.hi (t - u)),↑(LKS.lo (t - u))])∧Below ↑W W w':=by
 have hrun:=fun w=>zL (LKS.lo t) (LKS.lo u) (QE t) w;have e1:(LKS.lo t + 18446744073709551616 - LKS.lo u) % 18446744073709551616=LKS.lo (t - u):=by unfold LKS.lo;omega
 have e2:LKS.hi u + (if LKS.lo t < LKS.lo u then 1 else 0) + LKS.hi (t - u)=LKS.hi t:=by unfold LKS.hi LKS.lo;split <;> omega
 have e5:=QF ht;rw [e1] at hrun;clear e1 ht hu;generalize (if LKS.lo t < LKS.lo u then 1 else 0:Nat)=c at *;generalize LKS.hi (t - u)=h' at *;generalize LKS.lo (t - u)=l' at *;generalize LKS.hi t=h at *;generalize LKS.lo t=l at *;generalize LKS.hi u=i at *;generalize LKS.lo u=m at *;have e3:(h:Int) - (i:Int)=((h - i:Nat):Int):=by omega
 have e3':IntKind.u64.wrap ((h - i:Nat):Int)=((h - i:Nat):Int):=by rw [IntKind.wrap_u64];omega
 have e4:((h - i:Nat):Int) - (c:Int)=(h':Int):=by omega
 have e4':IntKind.u64.wrap (h':Int)=(h':Int):=by rw [IntKind.wrap_u64];omega
 clear e2 e5;go_enter func40,ntmps40;go_wp2;exact bodyPost_ret (aI rfl _ _ _ 89 _ _ rfl (by first | exact Blk.new _ _ _ | (have:=Blk.new1 (W.alloc (.cells #[↑h,↑l] 89)) (.cells #[↑i,↑m] 89) 89 #[↑h',↑l'];simpa using this)) underlying89 rfl (by kernel_rfl)) rfl ⟨rfl,(((Below.refl _ _).alloc (Nat.le_refl _) _).alloc (by simp) _).alloc (by simp;omega) _⟩
theorem J6 (t:Nat) (W:World):
  Calls prog 38 #[.agg #[↑(LKS.hi t),↑(LKS.lo t)]] W fun e w'=>e=.returned ↑(LKS.told t)∧Below ↑W W w':=by
 by_cases h:0 < LKS.hi t
 ·have d:decide (0 < LKS.hi t)=true:=decide_eq_true h
  have e:LKS.told t=18446744073709551615:=by unfold LKS.told;unfold LKS.hi at h;omega
  rw [e];clear h e;generalize LKS.hi t=h at *;go_enter func38,ntmps38;go_wp2;go_ret;exact ⟨rfl,aC _ _⟩
 ·have d:LKS.hi t=0:=by omega
  have e:LKS.told t=LKS.lo t:=by unfold LKS.told LKS.lo;unfold LKS.hi at d;omega
  rw [e,d];clear h e d;generalize LKS.lo t=l at *;go_enter func38,ntmps38;go_wp2;go_ret;exact ⟨rfl,aC _ _⟩
theorem J7 (p:LP) (s:LKS) (W:World) (h:cY W p s):
  Calls prog 33 #[↑(π p.b)] W fun e w'=>e=.returned ↑s.t∧W=w':=by
 have c7:=h.head.cell (i:=7) (v:=↑s.t) rfl;clear h;go_enter func33,ntmps33;go_wp2;go_ret;exact ⟨rfl,rfl⟩
structure CtI (W:World) (p:LP) (s:LKS) (z:Nat) (w:World):Prop where
 at_:cY w p s
 box:∃cs,cs.size=6∧Blk w z 37 cs
 bel:Below ↑W W w
 lo:↑W≤z
theorem CtI.to {p:LP} {s:LKS} (h:CtI W p s z w) (k:Below ↑w w w'):CtI W p s z w':=⟨h.at_.keep k,by obtain ⟨cs,h1,h2⟩:=h.box;exact ⟨cs,h1,h2.keep k⟩,aD h.bel k h.bel.size,h.lo⟩
theorem D9 {old:Array Value} (h:Blk w g T old) (cs:Array Value):Blk (w.setRow g cs) g T cs:=setRow_heap w g old cs T (0,0) h
theorem CtI.row {W w:World} {p:LP} {s:LKS} {z:Nat} (h:CtI W p s z w) (cs:Array Value) (hs:cs.size=6):CtI W p s z (w.setRow z cs)∧Blk (w.setRow z cs) z 37 cs:=by
 obtain ⟨ds,h1,h2⟩:=h.box;have f:Fr w (w.setRow z cs) [z]:=⟨rfl,rfl,rfl,by simp [World.setRow],fun k hk hl=>setRow_other w z k cs (by simpa using hl)⟩;have lz:=h.lo;have ls:∀x∈p.l,x ∉ [z]:=by
  have hh:=h.at_;have a1:=hh.head;have a2:=hh.k;have a3:=hh.q.head;obtain ⟨_,a4⟩:=hh.q.row.head;obtain ⟨_,a5⟩:=hh.q.row.body;have a6:=hh.j.head;obtain ⟨_,a7⟩:=hh.j.row.head;obtain ⟨_,a8⟩:=hh.j.row.body;intro x hx;simp only [LP.l,List.mem_cons,List.not_mem_nil,or_false] at hx;rcases hx with rfl | rfl | rfl | rfl | rfl | rfl | rfl | rfl
  ·exact nm1 (a1.ty h2 (by decide))
  ·exact nm1 (a2.ty h2 (by decide))
  ·exact nm1 (a3.ty h2 (by decide))
  ·exact nm1 (a4.ty h2 (by decide))
  ·exact nm1 (a5.ty h2 (by decide))
  ·exact nm1 (a6.ty h2 (by decide))
  ·exact nm1 (a7.ty h2 (by decide))
  ·exact nm1 (a8.ty h2 (by decide))
 exact ⟨⟨h.at_.fr f ls,⟨cs,hs,D9 h2 cs⟩,uA h.bel f h.bel.size (fun x hx=>by simp at hx;omega),h.lo⟩,D9 h2 cs⟩
theorem RU {p:LP} {s:LKS}:(∀w,Hid (CtI W p s z w)→w.cell? ⟨p.b,5,none⟩=some ↑(π p.qb))∧(∀w,Hid (CtI W p s z w)→w.cell? ⟨p.b,8,none⟩=some ↑(LKS.hi s.came))∧(∀w,Hid (CtI W p s z w)→w.cell? ⟨p.b,9,none⟩=some ↑(LKS.lo s.came))∧(∀w,Hid (CtI W p s z w)→w.cell? ⟨p.b,10,none⟩=some ↑(LKS.hi s.served))∧(∀w,Hid (CtI W p s z w)→w.cell? ⟨p.b,11,none⟩=some ↑(LKS.lo s.served))∧(∀w,Hid (CtI W p s z w)→w.cell? ⟨p.b,12,none⟩=some ↑(LKS.hi s.deliv))∧(∀w,Hid (CtI W p s z w)→w.cell? ⟨p.b,13,none⟩=some ↑(LKS.lo s.deliv)):=
 ⟨fun w h=>h.out.at_.head.cell rfl,fun w h=>h.out.at_.head.cell rfl,fun w h=>h.out.at_.head.cell rfl,fun w h=>h.out.at_.head.cell rfl,fun w h=>h.out.at_.head.cell rfl,fun w h=>h.out.at_.head.cell rfl,fun w h=>h.out.at_.head.cell rfl⟩
def LKS.countV (s:LKS):Value:=.agg #[↑(LKS.told s.came),↑s.q.lost,↑s.q.n,↑(LKS.told s.served),↑(LKS.told (s.served - s.deliv)),↑(LKS.told s.deliv)]
theorem EC (p:LP) (s:LKS) (W:World) (N:Nat) (h:cY W p s) (ho:s.ok N) (hN:N≤5500):
  Calls prog 14 #[↑(π p.b)] W fun e w'=>e=.returned s.countV∧Below ↑W W w':=by
 have K0:Hid (cY (W.alloc (.cells #[↑ζ,↑ζ,↑ζ,↑ζ,↑ζ,↑ζ] 37)) p s):=lh (h.keep (aC _ _));have B0:=lh (Blk.new W 37 #[↑ζ,↑ζ,↑ζ,↑ζ,↑ζ,↑ζ]);have W0:=lh (aC W (.cells #[↑ζ,↑ζ,↑ζ,↑ζ,↑ζ,↑ζ] 37));have HD:=lh (fun w (k:cY w p s)=>uU p.qb p.qr p.qg s.q w k.q);have HB:=lh (fun w (k:cY w p s)=>(JO p.qb p.qr p.qg s.q w k.q));have HT:=lh J6;have h1:=ho.c1;have h2:=ho.c2;have h3:=ho.came;have HL:=lh (fun w=>J5 s.served s.deliv w (by omega) (by omega));have hc:=K0.out.head.cell (i:=5) (v:=↑(π p.qb)) rfl;clear h ho hN h1 h2 h3;unfold LKS.countV;go_enter func14,ntmps14;go_wp2_with fail;refine (HD.out _ K0.out).mono ?_;rintro e w1 ⟨rfl,hd⟩;have K1:=lh (K0.out.keep (hd.below _));have B1:=lh (hd.blk B0.out);have W1:=lh (W0.out.trans (hd.below _));have M0:Hid (CtI W p s W.heap.size w1.drew):=lh ((CtI.mk K1.out ⟨_,rfl,B1.out⟩ W1.out (Nat.le_refl _)).to ((aB.drew _).below _));clear hd hc K0 B0 W0 HD K1 B1 W1;obtain ⟨r5,r8,r9,r10,r11,r12,r13⟩:=RU (W:=W) (p:=p) (s:=s) (z:=W.heap.size);go_wp2_with fail;refine rhd (S:=(fun w'=>Hid (CtI W p s W.heap.size w'))) M0 (fun hHeld=>?_);refine tkc 0 ?_;refine tkc 1 ?_;refine tkc 2 ?_;refine tks 3 ?_;refine tkc 5 ?_;refine tkc 6 ?_;refine tkc 7 ?_;refine tkc 8 ?_;refine tks 9 ?_;refine tkc 11 ?_;refine tkc 12 ?_;refine tkc 13 ?_;refine tks 14 ?_;refine tkc 16 ?_;refine tkc 17 ?_;refine tkc 18 ?_;refine tks 19 ?_;refine tkc 20 ?_;refine tkc 21 ?_;refine tkc 22 ?_;refine tks 23 ?_;refine tkc 26 ?_;refine tkc 27 ?_;refine tkc 28 ?_;refine tks 29 ?_;refine rdy [4] ?_;refine cns (fun K hK=>?_) .nil;go_simp;refine (HT.out _ _).mono ?_;rintro e w' ⟨rfl,hb⟩;have M2:=lh ((Hid.out (by assumption):CtI W p s W.heap.size _).to hb);clear hb;go_wp2_with fail;refine bck hK M2 (fun hHeld=>?_);clear hK;refine rdy [10] ?_;refine cns (fun K hK=>?_) .nil;go_simp;refine (HB.out _ (Hid.out (by assumption):CtI W p s W.heap.size _).at_).mono ?_;rintro e w' ⟨rfl,rfl⟩;go_wp2_with fail;refine bck hK hHeld (fun hHeld=>?_);clear hK;refine rdy [15] ?_;refine cns (fun K hK=>?_) .nil;go_simp;refine (HT.out _ _).mono ?_;rintro e w' ⟨rfl,hb⟩;have M2:=lh ((Hid.out (by assumption):CtI W p s W.heap.size _).to hb);clear hb;go_wp2_with fail;refine bck hK M2 (fun hHeld=>?_);clear hK;refine rdy [24] ?_;refine cns (fun K hK=>?_) .nil;go_simp;refine (HL.out _).mono ?_;rintro e w' ⟨rfl,hb⟩;have M2:=lh ((Hid.out (by assumption):CtI W p s W.heap.size _).to hb);clear hb;go_wp2_with fail;refine bck hK M2 (fun hHeld=>?_);clear hK;refine rdy [25] ?_;refine cns (fun K hK=>?_) .nil;go_simp;refine (HT.out _ _).mono ?_;rintro e w' ⟨rfl,hb⟩;have M2:=lh ((Hid.out (by assumption):CtI W p s W.heap.size _).to hb);clear hb;go_wp2_with fail;refine bck hK M2 (fun hHeld=>?_);clear hK;refine rdy [30] ?_;refine cns (fun K hK=>?_) .nil;go_simp;refine (HT.out _ _).mono ?_;rintro e w' ⟨rfl,hb⟩;have M2:=lh ((Hid.out (by assumption):CtI W p s W.heap.size _).to hb);clear hb;go_wp2_with fail;refine bck hK M2 (fun hHeld=>?_);clear hK;refine tkc 31 ?_;refine rdy [32] ?_;refine cns (fun K hK=>?_) .nil;have KE:=hHeld;obtain ⟨cs,hsz,hre⟩:=hHeld.out.box;rw [if_pos (by rfl)];refine wp_store_row _ _ _ rfl W.heap.size #[↑(LKS.told s.came),↑s.q.lost,↑s.q.n,↑(LKS.told s.served),↑(LKS.told (s.served - s.deliv)),↑(LKS.told s.deliv)] rfl rfl _ cs hre (by kernel_rfl) hsz (by simp [Value.oneCell']) ?_;have R1:=lh (KE.out.row #[↑(LKS.told s.came),↑s.q.lost,↑s.q.n,↑(LKS.told s.served),↑(LKS.told (s.served - s.deliv)),↑(LKS.told s.deliv)] rfl);clear KE hre hsz;refine bck hK (lh R1.out.1) (fun hHeld=>?_);clear hK;refine wpAnyH_done (by kernel_rfl) ?_ _;clear hHeld;go_wp2_with fail;exact bodyPost_ret (aI rfl _ _ _ 37 _ _ rfl R1.out.2 underlying37 rfl (by kernel_rfl)) rfl ⟨rfl,R1.out.1.bel⟩

theorem l8 (W:World) (p:LP) (z:Nat) (cs:Array Value) (s:LKS) (c0 n:Nat) (hc:c0≤1267650600228229401496703205376) (hn:n≤↑ω):∀w,Hid (LX W p z 73 cs s w)→
  Calls prog 135 #[.agg #[↑(LKS.hi c0),↑(LKS.lo c0)],↑n] w fun e w'=>e=.returned (.agg #[↑(LKS.hi (c0 + n)),↑(LKS.lo (c0 + n))])∧Hid (LX W p z 73 cs s w'):=
 fun w h=>(wX c0 n w hc hn).mono fun e w' q=>⟨q.1,lh (h.out.to q.2)⟩
theorem J8 {p:LP} {s:LKS}:(∀w,Hid (LX W p z 73 cs s w)→w.cell? ⟨p.b,8,none⟩=some ↑(LKS.hi s.came))∧(∀w,Hid (LX W p z 73 cs s w)→w.cell? ⟨p.b,9,none⟩=some ↑(LKS.lo s.came)):=
 ⟨fun w h=>h.out.li.cell (fun _=>rfl),fun w h=>h.out.li.cell (fun _=>rfl)⟩
theorem lD {p:LP} {s:LKS}:(∀w,Hid (LX W p z 73 cs s w)→w.cell? ⟨p.b,10,none⟩=some ↑(LKS.hi s.served))∧(∀w,Hid (LX W p z 73 cs s w)→w.cell? ⟨p.b,11,none⟩=some ↑(LKS.lo s.served)):=
 ⟨fun w h=>h.out.li.cell (fun _=>rfl),fun w h=>h.out.li.cell (fun _=>rfl)⟩
theorem EG {p:LP} {s:LKS}:(∀w,Hid (LX W p z 73 cs s w)→w.cell? ⟨p.b,12,none⟩=some ↑(LKS.hi s.deliv))∧(∀w,Hid (LX W p z 73 cs s w)→w.cell? ⟨p.b,13,none⟩=some ↑(LKS.lo s.deliv)):=
 ⟨fun w h=>h.out.li.cell (fun _=>rfl),fun w h=>h.out.li.cell (fun _=>rfl)⟩
theorem jE {p:LP} {s:LKS} (x:Pk):∀w,Hid (LX W p z 73 #[↑x.n,↑x.size,↑x.sent,↑x.first,↑x.deliv,↑x.at_,.bool x.lim] s w)→w.cell? ⟨z,1,none⟩=some ↑x.size:=fun w h=>h.out.box.cell rfl
theorem wY {p:LP} {s:LKS} (x:Pk):(∀w,Hid (LX W p z 73 #[↑x.n,↑x.size,↑x.sent,↑x.first,↑x.deliv,↑x.at_,.bool x.lim] s w)→w.cell? ⟨z,0,none⟩=some ↑x.n)∧(∀w,Hid (LX W p z 73 #[↑x.n,↑x.size,↑x.sent,↑x.first,↑x.deliv,↑x.at_,.bool x.lim] s w)→w.cell? ⟨z,1,none⟩=some ↑x.size)∧(∀w,Hid (LX W p z 73 #[↑x.n,↑x.size,↑x.sent,↑x.first,↑x.deliv,↑x.at_,.bool x.lim] s w)→w.cell? ⟨z,2,none⟩=some ↑x.sent)∧(∀w,Hid (LX W p z 73 #[↑x.n,↑x.size,↑x.sent,↑x.first,↑x.deliv,↑x.at_,.bool x.lim] s w)→w.cell? ⟨z,3,none⟩=some ↑x.first)∧(∀w,Hid (LX W p z 73 #[↑x.n,↑x.size,↑x.sent,↑x.first,↑x.deliv,↑x.at_,.bool x.lim] s w)→w.cell? ⟨z,4,none⟩=some ↑x.deliv)∧(∀w,Hid (LX W p z 73 #[↑x.n,↑x.size,↑x.sent,↑x.first,↑x.deliv,↑x.at_,.bool x.lim] s w)→w.cell? ⟨z,5,none⟩=some ↑x.at_)∧(∀w,Hid (LX W p z 73 #[↑x.n,↑x.size,↑x.sent,↑x.first,↑x.deliv,↑x.at_,.bool x.lim] s w)→w.cell? ⟨z,6,none⟩=some (.bool x.lim)):=
 ⟨fun w h=>h.out.box.cell rfl,fun w h=>h.out.box.cell rfl,fun w h=>h.out.box.cell rfl,fun w h=>h.out.box.cell rfl,fun w h=>h.out.box.cell rfl,fun w h=>h.out.box.cell rfl,fun w h=>h.out.box.cell rfl⟩
theorem QG {p:LP} {s:LKS}:∀w,Hid (LX W p z 73 cs s w)→w.cell? ⟨p.b,5,none⟩=some ↑(π p.qb):=fun w h=>h.out.li.kp.2.1
theorem EH (s:LKS) (c:Nat) (p:LP):((s.cells p).setIfInBounds 8 ↑(LKS.hi c)).setIfInBounds 9 ↑(LKS.lo c)=(s.withC c).cells p:=rfl
theorem jS (s:LKS) (c:Nat) (p:LP):((s.cells p).setIfInBounds 10 ↑(LKS.hi c)).setIfInBounds 11 ↑(LKS.lo c)=(s.withS c).cells p:=rfl
theorem zM (s:LKS) (c:Nat) (p:LP):((s.cells p).setIfInBounds 12 ↑(LKS.hi c)).setIfInBounds 13 ↑(LKS.lo c)=(s.withD c).cells p:=rfl
theorem uX (s:LKS) (x:Pk):s.send1 x=(s.withC (s.came + x.size)).withQ (s.q.putQ x):=rfl
theorem zN (l:List Pk) (x:Pk):∀s:LKS,s.kept (l ++ [x])=s.kept l + (if (s.sends l).q.putB x then 1 else 0):=by
 induction l with
 | nil=>intro s;show (if s.q.putB x then 1 else 0) + 0=0 + (if s.q.putB x then 1 else 0);omega
 | cons y t ih=>
   intro s;show (if s.q.putB y then 1 else 0) + (s.send1 y).kept (t ++ [x])=(if s.q.putB y then 1 else 0) + (s.send1 y).kept t + (if ((s.send1 y).sends t).q.putB x then 1 else 0)
   rw [ih];omega
theorem qE (l:List Pk):∀s:LKS,s.kept l≤l.length:=by
 induction l with
 | nil=>intro s;exact Nat.le_refl _
 | cons y t ih=>
   intro s;have:=ih (s.send1 y);show (if s.q.putB y then 1 else 0) + (s.send1 y).kept t≤t.length + 1
   split <;> omega
theorem oU (l:List Pk) (k:Nat) (h:k < l.length) (x:Pk) (hx:x=l.getD k Itm.z):l.take (k + 1)=l.take k ++ [x]:=by
 rw [List.take_add_one,hx];simp [h]
theorem uY (s:LKS) (l:List Pk) (x:Pk):s.sends (l ++ [x])=(s.sends l).send1 x:=by simp [LKS.sends,List.foldl_append]
theorem OP (W:World) (p:LP) (z:Nat) (s:LKS) (x:Pk) (ho:QK.ok s.q) (hp:x.size≤↑ω) (hk:s.q.l.length≤5500) (w:World) (h:LX W p z 73 #[↑x.n,↑x.size,↑x.sent,↑x.first,↑x.deliv,↑x.at_,.bool x.lim] s w):
  Calls prog 141 #[↑(π p.qb),.agg #[↑x.n,↑x.size,↑x.sent,↑x.first,↑x.deliv,↑x.at_,.bool x.lim]] w fun e w'=>e=.returned (.bool (s.q.putB x))∧Hid (LX W p z 73 #[↑x.n,↑x.size,↑x.sent,↑x.first,↑x.deliv,↑x.at_,.bool x.lim] (s.withQ (s.q.putQ x)) w'):=by
 obtain ⟨g,i,h1,h2,h3⟩:=h.ex;exact (OG p.qb p.qr g x s.q w h1.q ho hp hk).mono fun e w' k=>⟨k.e,lh (h.q h1 h2 h3 k)⟩
theorem J9 (p:LP) (s:LKS) (N:Nat) (l:List Pk) (ao:Option Addr) (cap:Nat) (W:World) (h:cY W p s) (ho:s.ok N) (hi:Its W ao l) (ha:0 < l.length→fY ao p.l) (hz:∀x∈l,x.size≤↑ω) (hN:N + l.length≤5500):
  Calls prog 83 #[↑(π p.b),.slice ao l.length cap] W (D8 W p (.int .i64 (s.kept l:Int)) (s.sends l)):=by
 have H0:=lh (LI.start h);have HI:=lh hi;have HO:=lh (fun k (hk:k≤l.length)=>(LKS.ok.sends (l:=l.take k) ho (fun x hx=>hz x (List.mem_of_mem_take hx))).more (M:=5500) (by rw [List.length_take];omega));have HZ:=lh hz;clear h ho hi hz;go_enter func83,ntmps83;go_wp2_with fail;go_loopw [5,12] (fun c i wr=>∃k:Nat,c=.int .i64 ((s.kept (l.take k):Nat):Int)∧i=.int .i64 (k:Int)∧k≤l.length∧Hid (LI W p (s.sends (l.take k)) wr)) (fun _ i _=>l.length - (intOf i).toNat)
 case atStart=>exact ⟨0,rfl,rfl,Nat.zero_le _,H0⟩
 case round=>
  obtain ⟨k,rfl,rfl,hk,HL⟩:=hrel;by_cases hlt:k < l.length
  ·obtain ⟨ad,rfl,_⟩:=HI.out.cells (by omega)
   obtain ⟨g,off,rfl,_,hc⟩:=uF (HI.out.frl HL.out.fr (ha (by omega))) (by omega);obtain ⟨x,hx⟩:∃x,x=l.getD k Itm.z:=⟨_,rfl⟩;obtain ⟨a0,a1,a2,a3,a4,a5,a6⟩:=hc k hlt x hx;have HT:=lh (oU l k hlt x hx);have hxm:x∈l:=by rw [hx];simp [hlt]
   have hxs:=lh (HZ.out x hxm);have HK:Hid (s.kept (l.take (k + 1))=s.kept (l.take k) + (if (s.sends (l.take k)).q.putB x then 1 else 0)):=lh (by rw [HT.out];exact zN _ _ _);have HS:Hid (s.sends (l.take (k + 1))=((s.sends (l.take k)).withC ((s.sends (l.take k)).came + x.size)).withQ ((s.sends (l.take k)).q.putQ x)):=lh (by rw [HT.out,uY];exact uX _ _);have hkl:s.kept (l.take k)≤5500:=Nat.le_trans (qE _ _) (by rw [List.length_take];omega);have HOk:=lh (HO.out k hk);have i0:(0:Int)≤(k:Int):=by omega
   have i1:(k:Int) < (l.length:Int):=by omega
   clear hc hx hxm HT HZ HO H0;generalize s.kept (l.take k)=c at *;generalize s.sends (l.take k)=s1 at *;have HB:Hid (LX W p wr.heap.size 73 #[↑x.n,↑x.size,↑x.sent,↑x.first,↑x.deliv,↑x.at_,.bool x.lim] s1 (wr.alloc (.cells #[↑x.n,↑x.size,↑x.sent,↑x.first,↑x.deliv,↑x.at_,.bool x.lim] 73))):=lh (HL.out.box _ _);go_upto_region 7 with fail
   clear a0 a1 a2 a3 a4 a5 a6;generalize wr.alloc (.cells #[↑x.n,↑x.size,↑x.sent,↑x.first,↑x.deliv,↑x.at_,.bool x.lim] 73)=w1 at *;generalize wr.heap.size=z at *;obtain ⟨c0,hc0⟩:∃c0,c0=s1.came:=⟨_,rfl⟩;have HM:=lh (l8 W p z #[↑x.n,↑x.size,↑x.sent,↑x.first,↑x.deliv,↑x.at_,.bool x.lim] s1 c0 x.size (by have:=HOk.out.came;omega) hxs.out);have HCs:Hid (∀(c:Nat) (p:LP),((s1.cells p).setIfInBounds 8 ↑(LKS.hi c)).setIfInBounds 9 ↑(LKS.lo c)=(s1.withC c).cells p):=lh (fun c p=>EH s1 c p);obtain ⟨rh,rl⟩:=J8 (W:=W) (p:=p) (z:=z) (cs:=#[↑x.n,↑x.size,↑x.sent,↑x.first,↑x.deliv,↑x.at_,.bool x.lim]) (s:=s1);rw [← hc0] at rh rl HS;clear hc0;have rz:=jE (W:=W) (p:=p) (z:=z) (s:=s1) x;have M0:Hid (LX W p z 73 #[↑x.n,↑x.size,↑x.sent,↑x.first,↑x.deliv,↑x.at_,.bool x.lim] s1 w1.drew):=lh HB.out.drew;clear HB HL;go_wp2_with fail;refine aR (S:=(fun w'=>Hid (LX W p z 73 #[↑x.n,↑x.size,↑x.sent,↑x.first,↑x.deliv,↑x.at_,.bool x.lim] (s1) w'))) 10 (by kernel_rfl) (by kernel_rfl) (by kernel_rfl) M0 ?_;simp only [List.size_toArray,List.length_cons,List.length_nil,Nat.reduceAdd,Array.replicate_succ,Array.replicate_zero,List.push_toArray,List.nil_append,List.cons_append];refine ckc 0 ?_;refine ckc 1 ?_;refine ckc 2 ?_;refine ckc 3 ?_;refine cks 4 ?_;refine ckc 5 ?_;refine cks 6 ?_;refine ckl 7 (fun w hS=>HM.out w hS) ?_;refine ckc 8 ?_;refine ckc 9 ?_;refine bL.last (by kernel_rfl) (fun w hSw=>?_);refine rdy [10] ?_;refine cns (fun K hK=>?_) .nil;have g0:=hSw.out.li.free 8;have g1:=hSw.out.li.free 9;have g2:=rh _ hSw;have g3:=rl _ hSw;have M2:=lh (hSw.out.set2 (s':=(s1).withC (c0 + x.size)) 8 9 ↑(LKS.hi (c0 + x.size)) ↑(LKS.lo (c0 + x.size)) (HCs.out _ _) ⟨rfl,rfl,rfl⟩);clear hSw rh rl rz;go_simp;refine bck hK trivial (fun _=>?_);clear hK;refine wpAnyH_done (by kernel_rfl) ?_ _;skip
   clear HM HCs g0 g1 g2 g3 M0;generalize (w.setCell ⟨p.b,8,none⟩ ↑(LKS.hi (c0 + x.size))).setCell ⟨p.b,9,none⟩ ↑(LKS.lo (c0 + x.size))=w2 at *;have HP:=lh (fun w k=>OP W p z (s1.withC (c0 + x.size)) x HOk.out.q.ok hxs.out (by have:=HOk.out.n;show s1.q.l.length≤5500;omega) w k);have HS2:Hid (s.sends (l.take (k + 1))=(s1.withC (c0 + x.size)).withQ ((s1.withC (c0 + x.size)).q.putQ x)):=HS;have HK2:Hid (s.kept (l.take (k + 1))=c + (if (s1.withC (c0 + x.size)).q.putB x then 1 else 0)):=HK;obtain ⟨z0,z1,z2,z3,z4,z5,z6⟩:=wY (W:=W) (p:=p) (z:=z) (s:=s1.withC (c0 + x.size)) x;have r5:=QG (W:=W) (p:=p) (z:=z) (cs:=#[↑x.n,↑x.size,↑x.sent,↑x.first,↑x.deliv,↑x.at_,.bool x.lim]) (s:=s1.withC (c0 + x.size));have M3:=lh M2.out.drew;clear HS HK HOk;generalize s1.withC (c0 + x.size)=s2 at *;go_wp2_with fail;refine aR (S:=(fun w'=>Hid (LX W p z 73 #[↑x.n,↑x.size,↑x.sent,↑x.first,↑x.deliv,↑x.at_,.bool x.lim] s2 w'))) 5 (by kernel_rfl) (by kernel_rfl) (by kernel_rfl) M3 ?_;generalize w2.drew=wd at *;simp only [List.size_toArray,List.length_cons,List.length_nil,Nat.reduceAdd,Array.replicate_succ,Array.replicate_zero,List.push_toArray,List.nil_append,List.cons_append];refine ckc 0 ?_;refine ckc 1 ?_;refine ckc 2 ?_;refine cks 3 ?_;refine cks 4 ?_;refine bL.last (by kernel_rfl) (fun w hSw=>?_);refine rdy [5] ?_;refine cns (fun K hK=>?_) .nil;go_simp;refine (HP.out _ hSw.out).mono ?_;rintro e w3 ⟨rfl,M4⟩;clear hSw M2 M3 z0 z1 z2 z3 z4 z5 z6 r5 HP;go_wp2_with fail;refine bck hK trivial (fun _=>?_);clear hK;refine wpAnyH_done (by kernel_rfl) ?_ _;skip
   cases hq:s2.q.putB x with
   | true=>
     rw [hq] at HK2;have HK3:Hid (((c:Int) + 1)=((s.kept (l.take (k + 1)):Nat):Int)):=lh (by rw [HK2.out];simp);have hw:IntKind.i64.wrap ((c:Int) + 1)=(c:Int) + 1:=by rw [IntKind.wrap_i64];omega
     go_wp2_with fail;go_roundw
     case rel=>exact ⟨k + 1,by rw [HK3.out],by go_num,by omega,by rw [HS2.out];exact lh M4.out.li⟩
     case measure=>simp [intOf];omega
   | false=>
     rw [hq] at HK2;have HK3:Hid ((c:Int)=((s.kept (l.take (k + 1)):Nat):Int)):=lh (by rw [HK2.out];simp);go_wp2_with fail;go_roundw
     case rel=>exact ⟨k + 1,by rw [HK3.out],by go_num,by omega,by rw [HS2.out];exact lh M4.out.li⟩
     case measure=>simp [intOf];omega
  ·obtain rfl:k=l.length:=by omega
   rw [List.take_length] at *;go_wp2_with fail;go_ret;exact ⟨rfl,HL.out⟩
end
end Go.Proofs.YtjhiooggnpbecaaGreatDoor
