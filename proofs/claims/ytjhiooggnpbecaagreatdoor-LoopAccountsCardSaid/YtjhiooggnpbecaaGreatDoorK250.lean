/- Lemmas. -/
import Derived.Test.YtjhiooggnpbecaaGreatDoorK238
set_option linter.unusedVariables false
namespace Go.Proofs.YtjhiooggnpbecaaGreatDoor
open Go.RowKit Cf
variable {d k m:Nat} {s:SN} {c:Setup}
def Inn (l:List Pk):Prop:=l.Pairwise fun a b=>a.n < b.n
theorem qI (D:List Pk) (n:Nat):bN (eY D) n=D.any fun q=>decide (q.n=n):=by
 unfold bN eY;rw [List.any_map];congr 1
 funext q
 show (decide (q.n≤n) && decide (n≤q.n))=decide (q.n=n)
 by_cases h:q.n=n
 ·simp [h]
 ·have:¬ (q.n≤n∧n≤q.n):=by omega
  simp only [decide_eq_false h];rw [← Bool.decide_and,decide_eq_false this]
theorem JO {q:Pk}:∀{l:List Pk},Inn l→(∀p∈l,p.n=q.n→p=q)→aR (l.filter fun p=>decide (q.n=p.n))≤q.size
 | [],_,_=>Nat.zero_le _
 | a :: l,h,hq=>by
   have h':=List.pairwise_cons.1 h;by_cases e:q.n=a.n
   ·have e1:(a :: l).filter (fun p=>decide (q.n=p.n))=[a]:=by
     rw [List.filter_cons_of_pos (by simpa using e)];congr 1
     rw [List.filter_eq_nil_iff];intro p hp;have:=h'.1 p hp;simp only [decide_eq_true_eq];omega
    rw [e1,hq a List.mem_cons_self e.symm,cF,fF];exact Nat.le_refl _
   ·rw [List.filter_cons_of_neg (by simpa using e)]
    exact JO h'.2 (fun p hp=>hq p (List.mem_cons_of_mem _ hp))
theorem qJ (f g:Pk→Bool):∀l:List Pk,aR (l.filter fun p=>f p || g p)≤aR (l.filter f) + aR (l.filter g)
 | []=>Nat.zero_le _
 | a :: l=>by
   have ih:=qJ f g l;cases hf:f a <;> cases hg:g a <;> simp only [List.filter_cons,hf,hg,Bool.or_false,Bool.or_true,Bool.or_self,if_true,if_false,Bool.false_eq_true,cF] <;> omega
theorem vA {l:List Pk} (hl:Inn l):∀(D:List Pk),(∀q∈D,∀p∈l,p.n=q.n→p=q)→aR (l.filter fun p=>bN (eY D) p.n)≤aR D
 | [],_=>by
   have e:l.filter (fun p=>bN (eY []) p.n)=[]:=by rw [List.filter_eq_nil_iff];intro p _;simp [bN,eY]
   rw [e];exact Nat.zero_le _
 | q :: D,h=>by
   have e:(fun p:Pk=>bN (eY (q :: D)) p.n)=fun p=>decide (q.n=p.n) || bN (eY D) p.n:=by
    funext p;rw [qI,qI];rfl
   rw [e,cF];have h1:=qJ (fun p=>decide (q.n=p.n)) (fun p=>bN (eY D) p.n) l;have h2:=JO (q:=q) hl (h q List.mem_cons_self);have h3:=vA hl D (fun x hx=>h x (List.mem_cons_of_mem _ hx));omega
theorem RX (s:SN) (now lost:Nat) (b:Bool):(s.tell now lost b).L=s.L:=by unfold SN.tell;split <;> rfl
theorem JP (h:s.ok c k m d) (hr:rightC c=true) (hk:k≤900) (now:Nat):∃f:Pk→Bool,(s.tickS now).L.out=s.L.out.filter f ++ s.tickL now:=by
 by_cases e:s.c.toE now=0
 ·obtain ⟨o1,_⟩:=SN.paced_ok h hr hk e
  obtain ⟨G,_⟩:=SN.gos_gone hr (s.paced now).w o1;have e1:s.tickS now=(s.paced now).run.1.rest:=by unfold SN.tickS;rw [if_pos e]
  have e2:s.tickL now=(s.paced now).run.2:=by unfold SN.tickL;rw [if_pos e]
  have er:(s.paced now).run=SN.gos (s.paced now).w (s.paced now):=rfl;have e3:(s.paced now).L=(s.tim now).loss.L:=RX _ _ _ _;refine ⟨fun p=>!(s.tim now).isLost p,?_⟩;rw [e1,(SN.rest_eq _).2.1,e2,er,G.out,e3];rfl
 ·obtain ⟨e1,e2⟩:=SN.tick_no e
  refine ⟨fun _=>true,?_⟩;rw [e1,e2,List.append_nil,List.filter_eq_self.2 (fun _ _=>rfl)];rfl
theorem OH (s:SN) (now:Nat) (ok:Bool) (f:Pk→Bool):∃g:Pk→Bool,(s.ackS now ok f).L.out=s.L.out.filter g:=by
 have same:∀r:SN,r.L.out=s.L.out→∃g:Pk→Bool,r.L.out=s.L.out.filter g:=fun r e=>⟨fun _=>true,by rw [e,List.filter_eq_self.2 (fun _ _=>rfl)]⟩;unfold SN.ackS;split
 ·exact same _ rfl
 ·split
  ·exact same _ rfl
  ·split
   ·split
    ·unfold SN.ackG
     split
     ·exact same _ rfl
     ·rename_i q l e
      exact ⟨fun p=>!f p && !((((s.tim now).took f).sampled now q l).isLost p),by
       show (((((s.tim now).took f).sampled now q l).loss).told now _ _ _).L.out=_
       show (((s.L.out.filter fun p=>!f p)).filter fun p=>!((((s.tim now).took f).sampled now q l).isLost p))=_
       rw [List.filter_filter];congr 1
       funext p
       rw [Bool.and_comm]⟩
    ·exact same _ rfl
   ·exact same _ rfl
theorem CU (h:s.ok c k m d) (hr:rightC c=true) (hk:k≤900) (hm:m≤100000) (now:Nat) (f:Pk→Bool):
  ∃a,a≤aR (s.L.out.filter f)∧(s.ackS now true f).ok c (k + 1) m (d + a)∧(s.ackS now true f).c.n=s.c.n∧(s.ackS now true f).L.next=s.L.next∧(s.c.p=false→s.c.t≤now→s.ackE now true≠0→(s.ackS now true f).c.p=true)∧((s.ackS now true f).c.p=false→s.ackE now true=0→(s.ackS now true f).c.t≤now)∧(s.c.p=true→(s.ackS now true f).c.p=true):=by
 unfold SN.ackS SN.ackE;by_cases h1:s.c.p=true
 ·rw [if_pos h1,if_pos h1]
  exact ⟨0,Nat.zero_le _,h.mono (Nat.le_succ _) (Nat.le_refl _),rfl,rfl,(fun q=>by rw [h1] at q;cases q),(fun q=>by rw [h1] at q;cases q),(fun _=>h1)⟩
 ·rw [if_neg h1,if_neg h1]
  by_cases h2:now < s.c.t
  ·rw [if_pos h2,if_pos h2]
   exact ⟨0,Nat.zero_le _,h.mono (Nat.le_succ _) (Nat.le_refl _),rfl,rfl,(fun _ q=>absurd h2 (by omega)),(fun _ q=>by cases q),(fun q=>absurd q h1)⟩
  ·rw [if_neg h2,if_neg h2,if_pos rfl,if_pos rfl]
   have hn:(s.c.toS now).n=s.c.n:=by
    unfold CS.toS;rw [if_neg h1,if_neg h2];split <;> rfl
   by_cases h3:s.c.toE now=0
   ·rw [if_pos h3]
    obtain ⟨e1,_,e3,_⟩:=CS.to_yes h3;obtain ⟨a1,a2,a3,a4⟩:=SN.ackG_ok (SN.to_ok h now) hr hk hm (now:=now) (by omega) f;refine ⟨_,?_,a1,by rw [a3];exact hn,a4,fun _ _ q=>absurd h3 q,fun _ _=>?_,fun q=>absurd q h1⟩
    ·exact Nat.le_refl _
    ·rw [a3];show (s.c.toS now).t≤now;rw [e1];exact Nat.le_refl _
   ·rw [if_neg h3]
    have hp:(s.c.toS now).p=true:=by
     unfold CS.toE at h3;unfold CS.toS;rw [if_neg h1,if_neg h2] at h3 ⊢;by_cases q:4398046511104 < now
     ·rw [if_pos q]
     ·rw [if_neg q] at h3;exact absurd rfl h3
    exact ⟨0,Nat.zero_le _,(SN.to_ok h now).mono (Nat.le_succ _) (Nat.le_refl _),hn,rfl,fun _ _ _=>hp,(fun _ q=>absurd q h3),fun q=>absurd q h1⟩
theorem OI {l r:List Pk} (h:Inn l) (k:Inn r) {n:Nat} (h1:∀p∈l,p.n < n) (h2:∀p∈r,n≤p.n):Inn (l ++ r):=
 List.pairwise_append.2 ⟨h,k,fun a ha b hb=>by have:=h1 a ha;have:=h2 b hb;omega⟩
theorem zI:∀{l:List Pk} {n:Nat},(∀i,i < l.length→(l.getD i Itm.z).n=n + i)→Inn l∧∀p∈l,n≤p.n
 | [],n,_=>⟨List.Pairwise.nil,fun p hp=>nomatch hp⟩
 | a :: l,n,h=>by
   have h0:a.n=n + 0:=h 0 (by simp);obtain ⟨i1,i2⟩:=zI (l:=l) (n:=n + 1) (fun i hi=>by
    have:=h (i + 1) (by rw [List.length_cons];omega);have e:(a :: l).getD (i + 1) Itm.z=l.getD i Itm.z:=rfl;rw [e] at this;omega)
   refine ⟨List.pairwise_cons.2 ⟨fun b hb=>by have:=i2 b hb;omega,i1⟩,fun p hp=>?_⟩;rcases List.mem_cons.1 hp with rfl | hp
   ·omega
   ·have:=i2 p hp;omega
end Go.Proofs.YtjhiooggnpbecaaGreatDoor
