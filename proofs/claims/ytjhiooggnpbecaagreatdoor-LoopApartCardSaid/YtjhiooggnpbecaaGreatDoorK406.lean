/- Lemmas. -/
import Derived.Test.YtjhiooggnpbecaaGreatDoorK405
set_option linter.unusedVariables false
namespace Go.Proofs.YtjhiooggnpbecaaGreatDoor
variable {k now:Nat}
section
open Go.RowKit
structure PL where
 out:List Pk
 next:Nat
 reorder:Nat
 top:Nat
 topped:Bool
def PL.lostB (l:PL) (now delay limit:Nat) (p:Pk):Bool:=decide (Pl.addS p.sent limit≤now) || (l.topped && (decide (Pl.addS p.n l.reorder≤l.top) || (decide (p.n < l.top) && decide (Pl.addS p.sent delay≤now))))
end

section
open Go.RowKit Pl
structure St where
 sent:Nat
 first:Nat
 deliv:Nat
 at_:Nat
 lim:Bool
deriving DecidableEq
instance:Inhabited St:=⟨⟨0,0,0,0,false⟩⟩
def St.cells (s:St):Array Value:=#[↑s.sent,↑s.first,↑s.deliv,↑s.at_,.bool s.lim]
structure St.ok (s:St):Prop where
 sent:s.sent≤↑ω
 first:s.first≤↑ω
 deliv:s.deliv≤↑ω
 at_:s.at_≤↑ω
def Pk.st (p:Pk):St:=⟨p.sent,p.first,p.deliv,p.at_,p.lim⟩
structure Pk.u64 (p:Pk):Prop where
 n:p.n≤↑ω
 size:p.size≤↑ω
 st:p.st.ok
def mJ (a b:St):Bool:=if a.deliv=b.deliv then decide (a.sent < b.sent) else decide (a.deliv < b.deliv)
def rS (best:St) (p:Pk):St:=if mJ p.st best=true then best else p.st
def cZ (best:St) (l:List Pk):St:=l.foldl rS best
theorem pR (best:St) {l:List Pk} (h:k < l.length):cZ best (l.take (k + 1))=rS (cZ best (l.take k)) (l.getD k Itm.z):=by
 have e:l.getD k Itm.z=l[k]:=by simp [List.getD_eq_getElem?_getD,h]
 rw [List.take_succ_eq_append_getElem h,cZ,List.foldl_append,e];rfl
theorem BZ {b:St} {p:Pk} (h:b.ok) (k:p.u64):(rS b p).ok:=by unfold rS;split;exact h;exact k.st
theorem jP {l:List Pk}:∀{b:St},b.ok→(∀p∈l,p.u64)→(cZ b l).ok:=by
 induction l with
 | nil=>intro b h _;exact h
 | cons x t ih=>intro b h k;exact ih (BZ h (k x List.mem_cons_self)) (fun p hp=>k p (List.mem_cons_of_mem _ hp))
def aT (n:Nat) (l:List Pk):Nat:=l.foldl (fun n p=>addS n p.size) n
theorem oK (n:Nat) {l:List Pk} (h:k < l.length):aT n (l.take (k + 1))=addS (aT n (l.take k)) (l.getD k Itm.z).size:=by
 have e:l.getD k Itm.z=l[k]:=by simp [List.getD_eq_getElem?_getD,h]
 rw [List.take_succ_eq_append_getElem h,aT,List.foldl_append,e];rfl
theorem dJ {l:List Pk}:∀{n:Nat},n≤↑ω→aT n l≤18446744073709551615:=by
 induction l with
 | nil=>intro n h;exact h
 | cons x t ih=>intro n h;exact ih (addS_le _ _)
def pS (d i:Nat):Nat:=if i=0 then 0 else shareS d 1000000 i
structure Smp where
 deliv:Nat
 interval:Nat
 rate:Nat
 rtt:Nat
 lim:Bool
deriving DecidableEq
def Smp.cells (s:Smp):Array Value:=#[↑s.deliv,↑s.interval,↑s.rate,↑s.rtt,.bool s.lim]
def Smp.zero:Smp:=⟨0,0,0,0,false⟩
def ivS (now:Nat) (s:St):Nat:=max (subS s.sent s.first) (subS now s.at_)
def wG (now bytes:Nat) (s:St):Smp:=⟨subS bytes s.deliv,ivS now s,pS (subS bytes s.deliv) (ivS now s),subS now s.sent,s.lim⟩
theorem IN (d i:Nat):pS d i≤18446744073709551615:=by unfold pS;split;omega;exact shareS_le _ _ _
theorem B9 {s:St} (hn:now≤↑ω) (h:s.ok):ivS now s≤18446744073709551615:=by
 unfold ivS subS;have:=h.sent;omega
structure RaS where
 n:Nat
 last:Nat
 first:Nat
 mark:Nat
def RaS.zero:RaS:=⟨0,0,0,0⟩
def RaS.cells (s:RaS):Array Value:=#[↑s.n,↑s.last,↑s.first,↑s.mark]
structure RaS.ok (s:RaS):Prop where
 n:s.n≤↑ω
 last:s.last≤↑ω
 first:s.first≤↑ω
 mark:s.mark≤↑ω
def RaS.stampS (s:RaS) (now fl:Nat):RaS:=if fl=0 then ⟨s.n,now,now,s.mark⟩ else s
def RaS.stampT (s:RaS) (now:Nat):St:=⟨now,s.first,s.n,s.last,decide (s.mark≠0)⟩
def RaS.limit (s:RaS) (fl:Nat):RaS:=⟨s.n,s.last,s.first,max (addS s.n fl) 1⟩
def lO (n m:Nat):Nat:=if m < n then 0 else m
def RaS.ack (s:RaS) (now:Nat) (p:Pk) (l:List Pk):RaS:=⟨aT s.n (p :: l),now,(cZ p.st l).sent,lO (aT s.n (p :: l)) s.mark⟩
def RaS.ackT (s:RaS) (now:Nat) (p:Pk) (l:List Pk):Smp:=wG now (aT s.n (p :: l)) (cZ p.st l)
theorem RaS.stamp_ok {s:RaS} (h:s.ok) (hn:now≤↑ω) (fl:Nat):(s.stampS now fl).ok:=by
 unfold RaS.stampS;split
 ·exact ⟨h.n,hn,hn,h.mark⟩
 ·exact h
theorem RaS.limit_ok {s:RaS} (h:s.ok) (fl:Nat):(s.limit fl).ok:=⟨h.n,h.last,h.first,by have:=addS_le s.n fl;show max _ _≤_;omega⟩
theorem CA {n m:Nat} (h:m≤↑ω):lO n m≤18446744073709551615:=by unfold lO;split <;> omega
theorem RaS.ack_ok {s:RaS} (h:s.ok) (hn:now≤↑ω) {p:Pk} {l:List Pk} (hp:∀q∈p :: l,q.u64):(s.ack now p l).ok:=
 ⟨dJ h.n,hn,(jP (hp p List.mem_cons_self).st (fun q hq=>hp q (List.mem_cons_of_mem _ hq))).sent,CA h.mark⟩
end

section
open Pl
def bt (least:Bool) (r a:Rd):Bool:=if least then decide (r.x≤a.x) else decide (a.x≤r.x)
def dV (win now:Nat) (r:Rd):Bool:=decide (now≤addS r.t win)
theorem IP (s:Bool) (r:Rd):bt s r r=true:=by unfold bt;split <;> simp
theorem jX {s:Bool} {a b c:Rd} (h:bt s a b=true) (k:bt s b c=true):bt s a c=true:=by
 unfold bt at *;cases s <;> simp at * <;> omega
theorem rT {s:Bool} {a b:Rd} (h:¬ bt s a b=true):bt s b a=true:=by
 unfold bt at *;cases s <;> simp at * <;> omega
theorem CB {s:Bool} {a b:Rd} (h:a.x=b.x):bt s a b=true:=by
 unfold bt;cases s <;> simp <;> omega
theorem uG {win now':Nat} {r:Rd} (h:dV win now' r=true) (hn:now≤now'):dV win now r=true:=by
 unfold dV at *;simp at *;omega
theorem oL {win:Nat} {r s:Rd} (h:dV win now r=true) (hs:r.t≤s.t):dV win now s=true:=by
 unfold dV at *;simp at *;have:addS r.t win≤addS s.t win:=by unfold addS;omega
 omega
theorem CC {win:Nat} {r:Rd} (h:r.t≤↑ω):dV win r.t r=true:=by
 unfold dV addS;simp;omega
def eZ (p:Rd→Bool) (l:List Rd):List Rd:=(l.reverse.dropWhile p).reverse
theorem kR (p:Rd→Bool) (l:List Rd) (x:Rd):eZ p (l ++ [x])=if p x then eZ p l else l ++ [x]:=by
 unfold eZ;rw [List.reverse_append];simp only [List.reverse_cons,List.reverse_nil,List.nil_append,List.singleton_append,List.dropWhile_cons];split
 ·rfl
 ·simp
theorem gR (p:Rd→Bool) (l:List Rd):∃r,l=eZ p l ++ r∧∀x∈r,p x=true:=by
 refine ⟨(l.reverse.takeWhile p).reverse,?_,?_⟩
 ·unfold eZ;rw [← List.reverse_append,List.takeWhile_append_dropWhile,List.reverse_reverse]
 ·intro x hx
  rw [List.mem_reverse] at hx;have:=List.all_takeWhile (p:=p) (l:=l.reverse);rw [List.all_eq_true] at this;exact this x hx
theorem yI (p:Rd→Bool) (l:List Rd):eZ p l=[]∨∃k x,eZ p l=k ++ [x]∧p x=false:=by
 unfold eZ;rcases h:l.reverse.dropWhile p with _ | ⟨x,r⟩
 ·exact .inl rfl
 ·refine .inr ⟨r.reverse,x,by simp,?_⟩
  have:=List.head?_dropWhile_not p l.reverse;rw [h] at this;simpa using this
theorem uH (p:Rd→Bool) (l:List Rd):∃r,l=r ++ l.dropWhile p∧∀x∈r,p x=true:=
 ⟨l.takeWhile p,(List.takeWhile_append_dropWhile).symm,by
  have:=List.all_takeWhile (p:=p) (l:=l);rw [List.all_eq_true] at this;exact this⟩
structure FS where
 win:Nat
 t:Nat
 least:Bool
 l:List Rd
def FS.to (f:FS) (t:Nat):FS:=if t < f.t then f else ⟨f.win,t,f.least,f.l.dropWhile fun r=>!dV f.win t r⟩
def FS.put (f:FS) (t x:Nat):FS:=if t < f.t then f else ⟨f.win,t,f.least,eZ (bt f.least ⟨t,x⟩) (f.to t).l ++ [⟨t,x⟩]⟩
def FS.err (f:FS) (t:Nat):Int:=if t < f.t then 2 else 0
def FS.best (f:FS):Rd:=f.l.headD ⟨0,0⟩
def FS.some (f:FS):Bool:=!f.l.isEmpty
structure FS.ok (f:FS):Prop where
 win:f.win≤↑ω
 t:f.t≤↑ω
 l:∀r∈f.l,r.t≤↑ω
 n:f.l.length≤1000
structure Inv (f:FS) (A:List Rd):Prop where
 past:∀a∈A,a.t≤f.t
 sorted:A.Pairwise fun a b=>a.t≤b.t
 mem:∀k∈f.l,k∈A∧dV f.win f.t k=true
 stairs:f.l.Pairwise fun a b=>a.t≤b.t∧¬ bt f.least b a=true
 all:∀a∈A,dV f.win f.t a=true→∃k∈f.l,bt f.least k a=true∧a.t≤k.t
theorem FS.to_t (f:FS) (t:Nat) (h:¬ t < f.t):f.to t=⟨f.win,t,f.least,f.l.dropWhile fun r=>!dV f.win t r⟩:=if_neg h
theorem FS.put_t (f:FS) (t x:Nat) (h:¬ t < f.t):f.put t x=⟨f.win,t,f.least,eZ (bt f.least ⟨t,x⟩) (f.to t).l ++ [⟨t,x⟩]⟩:=if_neg h
theorem FS.to_win (f:FS) (t:Nat):(f.to t).win=f.win:=by unfold FS.to;split <;> rfl
theorem FS.to_least (f:FS) (t:Nat):(f.to t).least=f.least:=by unfold FS.to;split <;> rfl
theorem FS.put_win (f:FS) (t x:Nat):(f.put t x).win=f.win:=by unfold FS.put;split <;> rfl
theorem FS.to_len (f:FS) (t:Nat):(f.to t).l.length≤f.l.length:=by
 unfold FS.to;split
 ·exact Nat.le_refl _
 ·exact (List.dropWhile_sublist _).length_le
theorem CD (p:Rd→Bool) (l:List Rd):(eZ p l).length≤l.length:=by
 obtain ⟨r,h,_⟩:=gR p l;have:=congrArg List.length h;rw [List.length_append] at this;omega
theorem FS.put_len (f:FS) (t x:Nat):(f.put t x).l.length≤f.l.length + 1:=by
 have h1:=FS.to_len f t;unfold FS.put;split
 ·omega
 ·have:=CD (bt f.least ⟨t,x⟩) (f.to t).l
  simp only [List.length_append,List.length_cons,List.length_nil];omega
theorem FS.to_ok {f:FS} (h:f.ok) {t:Nat} (ht:t≤↑ω):(f.to t).ok:=by
 have h1:=FS.to_len f t;refine ⟨by rw [FS.to_win];exact h.win,?_,?_,Nat.le_trans h1 h.n⟩
 ·unfold FS.to;split
  ·exact h.t
  ·exact ht
 ·unfold FS.to;split
  ·exact h.l
  ·exact fun r hr=>h.l r ((List.dropWhile_sublist _).subset hr)
theorem FS.put_ok {f:FS} (h:f.ok) {t x:Nat} (ht:t≤↑ω) (hn:f.l.length≤999):(f.put t x).ok:=by
 have h1:=FS.put_len f t x;refine ⟨by rw [FS.put_win];exact h.win,?_,?_,by omega⟩
 ·unfold FS.put;split
  ·exact h.t
  ·exact ht
 ·have h2:=FS.to_ok h ht
  unfold FS.put;split
  ·exact h.l
  ·intro r hr
   simp only [List.mem_append,List.mem_singleton] at hr;rcases hr with hr | rfl
   ·obtain ⟨q,hq,_⟩:=gR (bt f.least ⟨t,x⟩) (f.to t).l
    exact h2.l r (by rw [hq];exact List.mem_append_left _ hr)
   ·exact ht
theorem Inv.new (win:Nat) (least:Bool):Inv ⟨win,0,least,[]⟩ []:=⟨by simp,by simp,by simp,by simp,by simp⟩
theorem Inv.to {f:FS} {A:List Rd} (h:Inv f A) (t:Nat):Inv (f.to t) A:=by
 by_cases c:t < f.t
 ·unfold FS.to;rw [if_pos c];exact h
 ·rw [FS.to_t f t c]
  obtain ⟨r,hr,hr2⟩:=uH (fun r=>!dV f.win t r) f.l;have hsub:f.l.dropWhile (fun r=>!dV f.win t r) |>.Sublist f.l:=List.dropWhile_sublist _
  have hst:=h.stairs.sublist hsub;refine ⟨fun a ha=>by have:=h.past a ha;show a.t≤t;omega,h.sorted,?_,hst,?_⟩
  ·intro k hk
   refine ⟨(h.mem k (hsub.subset hk)).1,?_⟩;show dV f.win t k=true
   have hd:=List.head?_dropWhile_not (fun r=>!dV f.win t r) f.l;have hk':k∈f.l.dropWhile (fun r=>!dV f.win t r):=hk;clear hk hr hsub;generalize f.l.dropWhile (fun r=>!dV f.win t r)=d at *;rcases d with _ | ⟨y,ys⟩
   ·simp at hk'
   ·simp at hd
    have hk:=hk';rcases List.mem_cons.1 hk with rfl | hk
    ·exact hd
    ·exact oL hd ((List.pairwise_cons.1 hst).1 k hk).1
  ·intro a ha hc
   obtain ⟨k,hk,hb,hle⟩:=h.all a ha (uG hc (by show f.t≤t;omega));refine ⟨k,?_,hb,hle⟩;have hck:dV f.win t k=true:=oL hc hle;rw [hr] at hk;rcases List.mem_append.1 hk with hk | hk
   ·have:=hr2 k hk
    simp [hck] at this
   ·exact hk
theorem Inv.put {f:FS} {A:List Rd} (h:Inv f A) (t x:Nat) (ht:t≤↑ω) (c:¬ t < f.t):Inv (f.put t x) (A ++ [⟨t,x⟩]):=by
 have h':=h.to t;rw [FS.put_t f t x c];have hw:=FS.to_win f t;have hl:=FS.to_least f t;have ht':(f.to t).t=t:=by rw [FS.to_t f t c]
 generalize f.to t=g at *;obtain ⟨r,hr,hr2⟩:=gR (bt f.least ⟨t,x⟩) g.l;have hlast:=yI (bt f.least ⟨t,x⟩) g.l;have hst:=h'.stairs;rw [hl,hr] at hst;have hst1:=(List.pairwise_append.1 hst).1;have hps:∀a∈eZ (bt f.least ⟨t,x⟩) g.l,a∈g.l:=fun a ha=>by rw [hr];exact List.mem_append_left _ ha
 refine ⟨?_,?_,?_,?_,?_⟩
 ·intro a ha
  rcases List.mem_append.1 ha with ha | ha
  ·have:=h'.past a ha;show a.t≤t;omega
  ·rw [List.mem_singleton.1 ha];exact Nat.le_refl _
 ·rw [List.pairwise_append]
  refine ⟨h'.sorted,by simp,fun a ha b hb=>?_⟩;rw [List.mem_singleton.1 hb];have:=h'.past a ha;show a.t≤t;omega
 ·intro k hk
  rcases List.mem_append.1 hk with hk | hk
  ·obtain ⟨m1,m2⟩:=h'.mem k (hps k hk)
   rw [hw,ht'] at m2;exact ⟨List.mem_append_left _ m1,m2⟩
  ·rw [List.mem_singleton.1 hk]
   exact ⟨List.mem_append_right _ (by simp),CC (r:=⟨t,x⟩) ht⟩
 ·rw [List.pairwise_append]
  refine ⟨hst1,by simp,fun a ha b hb=>?_⟩;rw [List.mem_singleton.1 hb];have hm:=(h'.mem a (hps a ha)).1;have:=h'.past a hm;refine ⟨by show a.t≤t;omega,?_⟩;rcases hlast with e | ⟨k,y,e,hy⟩
  ·rw [e] at ha;simp at ha
  ·rw [e] at ha hst1
   rcases List.mem_append.1 ha with ha | ha
   ·have h3:=((List.pairwise_append.1 hst1).2.2 a ha y (by simp)).2
    intro hb2;exact h3 (jX (rT (by rw [hy];simp)) hb2)
   ·rw [List.mem_singleton.1 ha,hy];simp
 ·intro a ha hc
  have hself:∃k∈eZ (bt f.least ⟨t,x⟩) g.l ++ [⟨t,x⟩],k=⟨t,x⟩:=⟨_,List.mem_append_right _ (by simp),rfl⟩;rcases List.mem_append.1 ha with ha | ha
  ·obtain ⟨k,hk,hb,hle⟩:=h'.all a ha (by rw [hw,ht'];exact hc)
   rw [hl] at hb;rw [hr] at hk;rcases List.mem_append.1 hk with hk | hk
   ·exact ⟨k,List.mem_append_left _ hk,hb,hle⟩
   ·refine ⟨⟨t,x⟩,List.mem_append_right _ (by simp),jX (hr2 k hk) hb,?_⟩
    have:=h'.past a ha;show a.t≤t;omega
  ·rw [List.mem_singleton.1 ha]
   exact ⟨⟨t,x⟩,List.mem_append_right _ (by simp),IP _ _,Nat.le_refl _⟩
structure CE (least:Bool) (C:List Rd) (r:Rd):Prop where
 mem:r∈C
 good:∀a∈C,bt least r a=true
 last:∀a∈C,a.x=r.x→a.t≤r.t
def CF (f:FS) (A:List Rd):List Rd:=A.filter (dV f.win f.t)
theorem Inv.best {f:FS} {A:List Rd} (h:Inv f A) (hs:f.some=true):CE f.least (CF f A) f.best:=by
 unfold FS.some at hs;unfold FS.best;have hst:=h.stairs;have hm:=h.mem;have ha:=h.all;revert hs hst hm ha
 rcases f.l with _ | ⟨y,ys⟩
 ·intro hs;simp at hs
 ·intro _ hst hm ha
  show CE _ _ y
  have good:∀a∈CF f A,bt f.least y a=true∧(a.x=y.x→a.t≤y.t):=by
   intro a hc;obtain ⟨h1,h2⟩:=List.mem_filter.1 hc;obtain ⟨k,hk,hb,hle⟩:=ha a h1 h2;rcases List.mem_cons.1 hk with rfl | hk
   ·exact ⟨hb,fun _=>hle⟩
   ·have h3:=((List.pairwise_cons.1 hst).1 k hk).2
    refine ⟨jX (rT h3) hb,fun e=>absurd (jX hb (CB e)) h3⟩
  exact ⟨List.mem_filter.2 (hm y (by simp)),fun a hc=>(good a hc).1,fun a hc=>(good a hc).2⟩
theorem Inv.none {f:FS} {A:List Rd} (h:Inv f A) (hs:f.some=false):CF f A=[]∧f.best=⟨0,0⟩:=by
 unfold FS.some at hs;have e:f.l=[]:=by simpa using hs
 refine ⟨?_,by unfold FS.best;rw [e];rfl⟩;apply List.eq_nil_iff_forall_not_mem.2
 intro a hc;obtain ⟨h1,h2⟩:=List.mem_filter.1 hc;obtain ⟨k,hk,_⟩:=h.all a h1 h2;rw [e] at hk;simp at hk
end
end Go.Proofs.YtjhiooggnpbecaaGreatDoor
