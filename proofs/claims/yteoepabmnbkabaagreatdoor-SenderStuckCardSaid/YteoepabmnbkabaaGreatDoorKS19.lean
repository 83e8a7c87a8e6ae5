/- 1 texts put together: what each one says stands ahead of it. -/
import Derived.Test.YteoepabmnbkabaaGreatDoorKS18
import Derived.Test.YteoepabmnbkabaaGreatDoorKS01
set_option linter.unusedVariables false
namespace Go.Proofs.YteoepabmnbkabaaGreatDoor
open Pl
def bt (least:Bool) (r a:Rd):Bool:=if least then decide (r.x≤a.x) else decide (a.x≤r.x)
def cnts (win now:Nat) (r:Rd):Bool:=decide (now≤addS r.t win)
theorem bt_refl (s:Bool) (r:Rd):bt s r r=true:=by unfold bt;split <;> simp
theorem bt_trans {s:Bool} {a b c:Rd} (h:bt s a b=true) (k:bt s b c=true):bt s a c=true:=by
 unfold bt at *;cases s <;> simp at * <;> omega
theorem bt_total {s:Bool} {a b:Rd} (h:¬ bt s a b=true):bt s b a=true:=by
 unfold bt at *;cases s <;> simp at * <;> omega
theorem bt_of_eq {s:Bool} {a b:Rd} (h:a.x=b.x):bt s a b=true:=by
 unfold bt;cases s <;> simp <;> omega
theorem cnts_later {win now now':Nat} {r:Rd} (h:cnts win now' r=true) (hn:now≤now'):cnts win now r=true:=by
 unfold cnts at *;simp at *;omega
theorem cnts_mono {win now:Nat} {r s:Rd} (h:cnts win now r=true) (hs:r.t≤s.t):cnts win now s=true:=by
 unfold cnts at *;simp at *
 have:addS r.t win≤addS s.t win:=by unfold addS;omega
 omega
theorem cnts_now {win:Nat} {r:Rd} (h:r.t≤18446744073709551615):cnts win r.t r=true:=by
 unfold cnts addS;simp;omega
def popL (p:Rd→Bool) (l:List Rd):List Rd:=(l.reverse.dropWhile p).reverse
theorem popL_snoc (p:Rd→Bool) (l:List Rd) (x:Rd):popL p (l ++ [x])=if p x then popL p l else l ++ [x]:=by
 unfold popL;rw [List.reverse_append];simp only [List.reverse_cons,List.reverse_nil,List.nil_append,List.singleton_append,List.dropWhile_cons]
 split
 ·rfl
 ·simp
theorem popL_split (p:Rd→Bool) (l:List Rd):∃r,l=popL p l ++ r∧∀x∈r,p x=true:=by
 refine ⟨(l.reverse.takeWhile p).reverse,?_,?_⟩
 ·unfold popL;rw [← List.reverse_append,List.takeWhile_append_dropWhile,List.reverse_reverse]
 ·intro x hx
  rw [List.mem_reverse] at hx
  have:=List.all_takeWhile (p:=p) (l:=l.reverse)
  rw [List.all_eq_true] at this
  exact this x hx
theorem popL_last (p:Rd→Bool) (l:List Rd):popL p l=[]∨∃k x,popL p l=k ++ [x]∧p x=false:=by
 unfold popL
 rcases h:l.reverse.dropWhile p with _ | ⟨x,r⟩
 ·exact .inl rfl
 ·refine .inr ⟨r.reverse,x,by simp,?_⟩
  have:=List.head?_dropWhile_not p l.reverse
  rw [h] at this
  simpa using this
theorem drop_split (p:Rd→Bool) (l:List Rd):∃r,l=r ++ l.dropWhile p∧∀x∈r,p x=true:=
 ⟨l.takeWhile p,(List.takeWhile_append_dropWhile).symm,by
  have:=List.all_takeWhile (p:=p) (l:=l)
  rw [List.all_eq_true] at this
  exact this⟩
structure FS where
 win:Nat
 t:Nat
 least:Bool
 l:List Rd
def FS.to (f:FS) (t:Nat):FS:=if t < f.t then f else ⟨f.win,t,f.least,f.l.dropWhile fun r=>!cnts f.win t r⟩
def FS.put (f:FS) (t x:Nat):FS:=if t < f.t then f else ⟨f.win,t,f.least,popL (bt f.least ⟨t,x⟩) (f.to t).l ++ [⟨t,x⟩]⟩
def FS.err (f:FS) (t:Nat):Int:=if t < f.t then 2 else 0
def FS.best (f:FS):Rd:=f.l.headD ⟨0,0⟩
def FS.some (f:FS):Bool:=!f.l.isEmpty
structure FS.ok (f:FS):Prop where
 win:f.win≤18446744073709551615
 t:f.t≤18446744073709551615
 l:∀r∈f.l,r.t≤18446744073709551615
 n:f.l.length≤1000
structure Inv (f:FS) (A:List Rd):Prop where
 past:∀a∈A,a.t≤f.t
 sorted:A.Pairwise fun a b=>a.t≤b.t
 mem:∀k∈f.l,k∈A∧cnts f.win f.t k=true
 stairs:f.l.Pairwise fun a b=>a.t≤b.t∧¬ bt f.least b a=true
 all:∀a∈A,cnts f.win f.t a=true→∃k∈f.l,bt f.least k a=true∧a.t≤k.t
theorem FS.to_t (f:FS) (t:Nat) (h:¬ t < f.t):f.to t=⟨f.win,t,f.least,f.l.dropWhile fun r=>!cnts f.win t r⟩:=if_neg h
theorem FS.put_t (f:FS) (t x:Nat) (h:¬ t < f.t):f.put t x=⟨f.win,t,f.least,popL (bt f.least ⟨t,x⟩) (f.to t).l ++ [⟨t,x⟩]⟩:=if_neg h
theorem FS.to_win (f:FS) (t:Nat):(f.to t).win=f.win:=by unfold FS.to;split <;> rfl
theorem FS.to_least (f:FS) (t:Nat):(f.to t).least=f.least:=by unfold FS.to;split <;> rfl
theorem FS.put_win (f:FS) (t x:Nat):(f.put t x).win=f.win:=by unfold FS.put;split <;> rfl
theorem FS.to_len (f:FS) (t:Nat):(f.to t).l.length≤f.l.length:=by
 unfold FS.to;split
 ·exact Nat.le_refl _
 ·exact (List.dropWhile_sublist _).length_le
theorem popL_len (p:Rd→Bool) (l:List Rd):(popL p l).length≤l.length:=by
 obtain ⟨r,h,_⟩:=popL_split p l
 have:=congrArg List.length h
 rw [List.length_append] at this;omega
theorem FS.put_len (f:FS) (t x:Nat):(f.put t x).l.length≤f.l.length + 1:=by
 have h1:=FS.to_len f t
 unfold FS.put;split
 ·omega
 ·have:=popL_len (bt f.least ⟨t,x⟩) (f.to t).l
  simp only [List.length_append,List.length_cons,List.length_nil];omega
theorem FS.to_ok {f:FS} (h:f.ok) {t:Nat} (ht:t≤18446744073709551615):(f.to t).ok:=by
 have h1:=FS.to_len f t
 refine ⟨by rw [FS.to_win];exact h.win,?_,?_,Nat.le_trans h1 h.n⟩
 ·unfold FS.to;split
  ·exact h.t
  ·exact ht
 ·unfold FS.to;split
  ·exact h.l
  ·exact fun r hr=>h.l r ((List.dropWhile_sublist _).subset hr)
theorem FS.put_ok {f:FS} (h:f.ok) {t x:Nat} (ht:t≤18446744073709551615) (hn:f.l.length≤999):(f.put t x).ok:=by
 have h1:=FS.put_len f t x
 refine ⟨by rw [FS.put_win];exact h.win,?_,?_,by omega⟩
 ·unfold FS.put;split
  ·exact h.t
  ·exact ht
 ·have h2:=FS.to_ok h ht
  unfold FS.put;split
  ·exact h.l
  ·intro r hr
   simp only [List.mem_append,List.mem_singleton] at hr
   rcases hr with hr | rfl
   ·obtain ⟨q,hq,_⟩:=popL_split (bt f.least ⟨t,x⟩) (f.to t).l
    exact h2.l r (by rw [hq];exact List.mem_append_left _ hr)
   ·exact ht
theorem Inv.new (win:Nat) (least:Bool):Inv ⟨win,0,least,[]⟩ []:=⟨by simp,by simp,by simp,by simp,by simp⟩
theorem Inv.to {f:FS} {A:List Rd} (h:Inv f A) (t:Nat):Inv (f.to t) A:=by
 by_cases c:t < f.t
 ·unfold FS.to;rw [if_pos c];exact h
 ·rw [FS.to_t f t c]
  obtain ⟨r,hr,hr2⟩:=drop_split (fun r=>!cnts f.win t r) f.l
  have hsub:f.l.dropWhile (fun r=>!cnts f.win t r) |>.Sublist f.l:=List.dropWhile_sublist _
  have hst:=h.stairs.sublist hsub
  refine ⟨fun a ha=>by have:=h.past a ha;show a.t≤t;omega,h.sorted,?_,hst,?_⟩
  ·intro k hk
   refine ⟨(h.mem k (hsub.subset hk)).1,?_⟩
   show cnts f.win t k=true
   have hd:=List.head?_dropWhile_not (fun r=>!cnts f.win t r) f.l
   have hk':k∈f.l.dropWhile (fun r=>!cnts f.win t r):=hk
   clear hk hr hsub
   generalize f.l.dropWhile (fun r=>!cnts f.win t r)=d at *
   rcases d with _ | ⟨y,ys⟩
   ·simp at hk'
   ·simp at hd
    have hk:=hk'
    rcases List.mem_cons.1 hk with rfl | hk
    ·exact hd
    ·exact cnts_mono hd ((List.pairwise_cons.1 hst).1 k hk).1
  ·intro a ha hc
   obtain ⟨k,hk,hb,hle⟩:=h.all a ha (cnts_later hc (by show f.t≤t;omega))
   refine ⟨k,?_,hb,hle⟩
   have hck:cnts f.win t k=true:=cnts_mono hc hle
   rw [hr] at hk
   rcases List.mem_append.1 hk with hk | hk
   ·have:=hr2 k hk
    simp [hck] at this
   ·exact hk
theorem Inv.put {f:FS} {A:List Rd} (h:Inv f A) (t x:Nat) (ht:t≤18446744073709551615) (c:¬ t < f.t):Inv (f.put t x) (A ++ [⟨t,x⟩]):=by
 have h':=h.to t
 rw [FS.put_t f t x c]
 have hw:=FS.to_win f t
 have hl:=FS.to_least f t
 have ht':(f.to t).t=t:=by rw [FS.to_t f t c]
 generalize f.to t=g at *
 obtain ⟨r,hr,hr2⟩:=popL_split (bt f.least ⟨t,x⟩) g.l
 have hlast:=popL_last (bt f.least ⟨t,x⟩) g.l
 have hst:=h'.stairs
 rw [hl,hr] at hst
 have hst1:=(List.pairwise_append.1 hst).1
 have hps:∀a∈popL (bt f.least ⟨t,x⟩) g.l,a∈g.l:=fun a ha=>by rw [hr];exact List.mem_append_left _ ha
 refine ⟨?_,?_,?_,?_,?_⟩
 ·intro a ha
  rcases List.mem_append.1 ha with ha | ha
  ·have:=h'.past a ha;show a.t≤t;omega
  ·rw [List.mem_singleton.1 ha];exact Nat.le_refl _
 ·rw [List.pairwise_append]
  refine ⟨h'.sorted,by simp,fun a ha b hb=>?_⟩
  rw [List.mem_singleton.1 hb]
  have:=h'.past a ha;show a.t≤t;omega
 ·intro k hk
  rcases List.mem_append.1 hk with hk | hk
  ·obtain ⟨m1,m2⟩:=h'.mem k (hps k hk)
   rw [hw,ht'] at m2
   exact ⟨List.mem_append_left _ m1,m2⟩
  ·rw [List.mem_singleton.1 hk]
   exact ⟨List.mem_append_right _ (by simp),cnts_now (r:=⟨t,x⟩) ht⟩
 ·rw [List.pairwise_append]
  refine ⟨hst1,by simp,fun a ha b hb=>?_⟩
  rw [List.mem_singleton.1 hb]
  have hm:=(h'.mem a (hps a ha)).1
  have:=h'.past a hm
  refine ⟨by show a.t≤t;omega,?_⟩
  rcases hlast with e | ⟨k,y,e,hy⟩
  ·rw [e] at ha;simp at ha
  ·rw [e] at ha hst1
   rcases List.mem_append.1 ha with ha | ha
   ·have h3:=((List.pairwise_append.1 hst1).2.2 a ha y (by simp)).2
    intro hb2
    exact h3 (bt_trans (bt_total (by rw [hy];simp)) hb2)
   ·rw [List.mem_singleton.1 ha,hy];simp
 ·intro a ha hc
  have hself:∃k∈popL (bt f.least ⟨t,x⟩) g.l ++ [⟨t,x⟩],k=⟨t,x⟩:=⟨_,List.mem_append_right _ (by simp),rfl⟩
  rcases List.mem_append.1 ha with ha | ha
  ·obtain ⟨k,hk,hb,hle⟩:=h'.all a ha (by rw [hw,ht'];exact hc)
   rw [hl] at hb
   rw [hr] at hk
   rcases List.mem_append.1 hk with hk | hk
   ·exact ⟨k,List.mem_append_left _ hk,hb,hle⟩
   ·refine ⟨⟨t,x⟩,List.mem_append_right _ (by simp),bt_trans (hr2 k hk) hb,?_⟩
    have:=h'.past a ha;show a.t≤t;omega
  ·rw [List.mem_singleton.1 ha]
   exact ⟨⟨t,x⟩,List.mem_append_right _ (by simp),bt_refl _ _,Nat.le_refl _⟩
structure IsBest (least:Bool) (C:List Rd) (r:Rd):Prop where
 mem:r∈C
 good:∀a∈C,bt least r a=true
 last:∀a∈C,a.x=r.x→a.t≤r.t
def cting (f:FS) (A:List Rd):List Rd:=A.filter (cnts f.win f.t)
theorem Inv.best {f:FS} {A:List Rd} (h:Inv f A) (hs:f.some=true):IsBest f.least (cting f A) f.best:=by
 unfold FS.some at hs
 unfold FS.best
 have hst:=h.stairs
 have hm:=h.mem
 have ha:=h.all
 revert hs hst hm ha
 rcases f.l with _ | ⟨y,ys⟩
 ·intro hs;simp at hs
 ·intro _ hst hm ha
  show IsBest _ _ y
  have good:∀a∈cting f A,bt f.least y a=true∧(a.x=y.x→a.t≤y.t):=by
   intro a hc
   obtain ⟨h1,h2⟩:=List.mem_filter.1 hc
   obtain ⟨k,hk,hb,hle⟩:=ha a h1 h2
   rcases List.mem_cons.1 hk with rfl | hk
   ·exact ⟨hb,fun _=>hle⟩
   ·have h3:=((List.pairwise_cons.1 hst).1 k hk).2
    refine ⟨bt_trans (bt_total h3) hb,fun e=>absurd (bt_trans hb (bt_of_eq e)) h3⟩
  exact ⟨List.mem_filter.2 (hm y (by simp)),fun a hc=>(good a hc).1,fun a hc=>(good a hc).2⟩
theorem Inv.none {f:FS} {A:List Rd} (h:Inv f A) (hs:f.some=false):cting f A=[]∧f.best=⟨0,0⟩:=by
 unfold FS.some at hs
 have e:f.l=[]:=by simpa using hs
 refine ⟨?_,by unfold FS.best;rw [e];rfl⟩
 apply List.eq_nil_iff_forall_not_mem.2
 intro a hc
 obtain ⟨h1,h2⟩:=List.mem_filter.1 hc
 obtain ⟨k,hk,_⟩:=h.all a h1 h2
 rw [e] at hk;simp at hk
end Go.Proofs.YteoepabmnbkabaaGreatDoor
