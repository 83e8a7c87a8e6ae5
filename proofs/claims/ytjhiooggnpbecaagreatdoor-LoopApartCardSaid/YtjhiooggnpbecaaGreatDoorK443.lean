/- Lemmas. -/
import Derived.RangeFuncBound
import Derived.Shelf.RegionOpen
import Derived.OwnWalkIn
import Derived.LoopNIn
import Derived.LoopIn
import Derived.Test.YtjhiooggnpbecaaGreatDoorK414
import Derived.Test.YtjhiooggnpbecaaGreatDoorK424
set_option linter.unusedVariables false
set_option maxHeartbeats 2000000
set_option maxRecDepth 100000
namespace Go.Proofs.YtjhiooggnpbecaaGreatDoor
open Tryz
variable {b g g0 l n0 now rb:Nat} {ob:Obj} {A B W w w':World}
section
open Go.RowKit Go.Shelf
attribute [local go_sem] Oper.semAt_some
def StJ (rb g0 n0:Nat) (A B:World):Prop:=∃L,Fr A B L∧∀x∈L,(x=rb∨x=g0∨n0≤x)∧((∃cs,Blk A x 299 cs)∨∃cs,Blk A x 226 cs)
def KrJ (A B:World):Prop:=∀k T cs,T≠73→T≠67→Blk A k T cs→Blk B k T cs
theorem StJ.below (h:Below ↑A A B):StJ rb g0 n0 A B:=⟨[],Fr.of_below h [],fun x hx=>by cases hx⟩
theorem StJ.row {b rb g0 n0 g:Nat} {A B:World} {s:BxS} {l:List Jp} {v e:Ending} (h:dX A b rb g s) (hg:g=g0∨n0≤g) (k:jC A rb g v l e B):StJ rb g0 n0 A B:=by
 refine ⟨[rb,g],k.mv,fun x hx=>?_⟩;obtain ⟨c1,h1⟩:=h.row.head;obtain ⟨c2,h2⟩:=h.row.body;simp at hx
 rcases hx with rfl | rfl
 ·exact ⟨.inl rfl,.inl ⟨_,h1⟩⟩
 ·exact ⟨.inr hg,.inr ⟨_,h2⟩⟩
theorem StJ.blk (h:StJ rb g0 n0 A B) {k:Nat} {T:TypeId} {cs:Array Value} (hb:Blk A k T cs) (h1:T≠299) (h2:T≠226):Blk B k T cs:=by
 obtain ⟨L,f,hL⟩:=h;refine hb.fr f (fun hm=>?_);rcases (hL k hm).2 with ⟨ds,hd⟩ | ⟨ds,hd⟩
 ·exact hb.ty hd h1 rfl
 ·exact hb.ty hd h2 rfl
theorem StJ.other (h:StJ rb g0 n0 A B) (k:Nat) (ob:Obj) (hk:A.heap[k]? =some ob) (ho:ob.isCells=false):B.heap[k]? =some ob:=by
 obtain ⟨L,f,hL⟩:=h;refine (f.block k (Array.getElem?_eq_some_iff.1 hk).1 (fun hm=>?_)).trans hk;rcases (hL k hm).2 with ⟨ds,hd⟩ | ⟨ds,hd⟩ <;>
 ·unfold Blk at hd
  rw [hk] at hd;cases hd;cases ho
theorem KrJ.trans {C:World} (h:KrJ A B) (k:KrJ B C):KrJ A C:=fun x T cs h1 h2 hb=>k x T cs h1 h2 (h x T cs h1 h2 hb)
theorem KrJ.put (o':Obj) (hk:A.heap[l]? =some ob) (ho:ob.isCells=false):KrJ A (A.putObj l o'):=fun x T cs _ _ hb=>by
 unfold Blk at hb ⊢;refine (World.putObj_heap_other (fun e=>?_)).trans hb;subst e;rw [hk] at hb;cases hb;cases ho
theorem KrJ.below (h:Below ↑A A B):KrJ A B:=fun x T cs _ _ hb=>hb.keep h
theorem dX.kr {s:BxS} (h:dX A b rb g s) (k:KrJ A B):dX B b rb g s:=by
 obtain ⟨h1,q,h2,h3,h4⟩:=h;exact ⟨k _ _ _ (by decide) (by decide) h1,q,h2,h3,k _ _ _ (by decide) (by decide) h4.head,k _ _ _ (by decide) (by decide) h4.body⟩
def LJ (w:World) (rb:Nat):Nat:=(intOf ((w.cell? ⟨rb,2,none⟩).getD undef)).toNat
theorem xW {l:List Jp} (h:bW w rb g l):LJ w rb=l.length:=by
 obtain ⟨q,h1,rfl,h3⟩:=h;unfold LJ;rw [h3.head.cell (i:=2) (v:=.int .i64 (q.cnt:Int)) rfl,QS.len_items];simp [intOf]
structure DuI (b rb g0 n0 bb bn now:Nat) (s:BxS) (J:List Pk→World→Prop) (pre rest:List Jp) (w:World):Prop where
 e:s.l=pre ++ rest
 due:∀y∈pre,iH now y=true
 at_:∃g,dX w b rb g ⟨s.delay,s.jit,rest,s.last⟩∧(g=g0∨n0≤g)
 bb:Blk w bb 87 #[↑(π b)]
 bn:Blk w bn 22 #[↑now]
 sz:n0≤↑w
 j:J (pre.map Jp.p) w
theorem DuI.to {bb bn:Nat} {s:BxS} {J:List Pk→World→Prop} {pre rest:List Jp} (hJ:∀pre A B,J pre A→StJ rb g0 n0 A B→J pre B) (h:DuI b rb g0 n0 bb bn now s J pre rest w) (k:Below ↑w w w'):DuI b rb g0 n0 bb bn now s J pre rest w':=
 ⟨h.e,h.due,by obtain ⟨g,h1,h2⟩:=h.at_;exact ⟨g,h1.keep k,h2⟩,h.bb.keep k,h.bn.keep k,Nat.le_trans h.sz k.size,hJ _ _ _ h.j (StJ.below k)⟩
structure DuS (b rb g0 n0 bb bn now:Nat) (s:BxS) (J:List Pk→World→Prop) (pre:List Jp) (x:Jp) (rest:List Jp) (w:World):Prop where
 e:s.l=pre ++ x :: rest
 due:∀y∈pre,iH now y=true
 x:iH now x=true
 at_:∃g,dX w b rb g ⟨s.delay,s.jit,rest,s.last⟩∧(g=g0∨n0≤g)
 bb:Blk w bb 87 #[↑(π b)]
 bn:Blk w bn 22 #[↑now]
 sz:n0≤↑w
 j:J (pre.map Jp.p) w
theorem DuS.alloc {b rb g0 n0 bb bn now:Nat} {s:BxS} {J:List Pk→World→Prop} {pre rest:List Jp} {x:Jp} {w:World} (hJ:∀pre A B,J pre A→StJ rb g0 n0 A B→J pre B) (h:DuS b rb g0 n0 bb bn now s J pre x rest w) (ob:Obj):DuS b rb g0 n0 bb bn now s J pre x rest (w.alloc ob):=
 ⟨h.e,h.due,h.x,by obtain ⟨g,h1,h2⟩:=h.at_;exact ⟨g,h1.keep (aC _ _),h2⟩,h.bb.alloc _,h.bn.alloc _,Nat.le_trans h.sz (by simp),hJ _ _ _ h.j (StJ.below (aC _ _))⟩
theorem DuI.shift {bb bn:Nat} {s:BxS} {J:List Pk→World→Prop} {pre rest:List Jp} {x:Jp} {v e:Ending} (hJ:∀pre A B,J pre A→StJ rb g0 n0 A B→J pre B) (h:DuI b rb g0 n0 bb bn now s J pre (x :: rest) w) (hx:iH now x=true)
  (h1:dX w b rb g ⟨s.delay,s.jit,x :: rest,s.last⟩) (h2:g=g0∨n0≤g) (k:jC w rb g v rest e w'):DuS b rb g0 n0 bb bn now s J pre x rest w':=by
 have st:=StJ.row h1 h2 k;obtain ⟨g',k1,k2⟩:=k.at_;have n:=h1.ne;have sz:=h.sz;exact ⟨h.e,h.due,hx,⟨g',⟨h1.head.fr k.mv (by simp [n.1,n.2.1]),k1⟩,by rcases k2 with c | c;exact c▸h2;omega⟩,st.blk h.bb (by decide) (by decide),st.blk h.bn (by decide) (by decide),Nat.le_trans sz k.mv.size,hJ _ _ _ h.j st⟩
theorem DuS.round {bb bn:Nat} {s:BxS} {J:List Pk→World→Prop} {pre rest:List Jp} {x:Jp} (h:DuS b rb g0 n0 bb bn now s J pre x rest w) (hs:w.heap.size≤↑w') (k:KrJ w w') (hj:J (pre.map Jp.p ++ [x.p]) w'):DuI b rb g0 n0 bb bn now s J (pre ++ [x]) rest w':=
 ⟨by rw [h.e];simp,fun y hy=>by rcases List.mem_append.1 hy with c | c;exact h.due y c;rw [List.mem_singleton.1 c];exact h.x,by obtain ⟨g,h1,h2⟩:=h.at_;exact ⟨g,h1.kr k,h2⟩,k _ _ _ (by decide) (by decide) h.bb,k _ _ _ (by decide) (by decide) h.bn,Nat.le_trans h.sz hs,by rw [List.map_append];exact hj⟩
theorem DuI.next {bb bn:Nat} {s:BxS} {J:List Pk→World→Prop} {pre rest:List Jp} (h:DuI b rb g0 n0 bb bn now s J pre rest w):
  Calls prog 246 #[↑(π b)] w fun e w'=>e=.returned (.tuple #[↑((rest.getD 0 Itm.z).due),.bool (!rest.isEmpty)])∧Below ↑w w w':=by
 obtain ⟨g,h1,_⟩:=h.at_;exact JU b rb g _ w h1
theorem SO (n l b rb g0 n0 bb bn now:Nat) (s:BxS) (hn:1≤n) (J:List Pk→World→Prop) (W:World) (hJ:∀pre A B,J pre A→StJ rb g0 n0 A B→J pre B)
  (hY:∀pre x A,J pre A→pre.length < s.l.length→YieldAt Fence.wide (n - 1) prog l #[Pk.agg x] A fun e B=>e=.returned (.bool true)∧J (pre ++ [x]) B∧A.heap.size≤↑B∧KrJ A B)
  (h0:DuI b rb g0 n0 bb bn now s J [] s.l W):
  CallsIn Fence.wide n prog 245 #[.func (.yield l) #[] #[],↑(π bb),↑(π bn)] W fun e W'=>(∃v,e=.returned v)∧∃pre rest,DuI b rb g0 n0 bb bn now s J pre rest W'∧∀y t,rest=y :: t→iH now y=false:=by
 have HJ:=lh hJ;have HY:=lh hY;have H0:=lh h0;have l0:=h0.bb.cell (i:=0) rfl;have HNx:=lh h0.next;clear hJ hY h0;refine callsIn_of_wp func245 rfl trivial ?_ rfl;simp only [ntmps245,List.size_toArray,List.length_cons,List.length_nil,Nat.reduceAdd,Nat.reduceSub,Array.replicate_succ,Array.replicate_zero,List.push_toArray,List.append_toArray,List.nil_append,List.cons_append]
 gi_wp2_with (refine ⟨trivial,?_⟩;gi_at_call 246;refine (callsIn_wide.2 HNx.out).mono ?_;rintro e w1 ⟨rfl,hb1⟩)
 have H1:=lh (H0.out.to HJ.out hb1);clear hb1 l0 HNx H0
 gi_loopw [4,5] (fun a q wr=>∃pre rest,a=↑((List.getD rest 0 Itm.z:Jp).due)∧q=.bool (!rest.isEmpty)∧DuI b rb g0 n0 bb bn now s J pre rest wr) (fun _ _ wr=>LJ wr rb)
 case atStart=>exact ⟨[],s.l,rfl,rfl,H1.out⟩
 case round=>
  obtain ⟨pre,rest,rfl,rfl,hI⟩:=hrel;have HI:=lh hI;have n0':=hI.bn.cell (i:=0) (v:=↑now) rfl;clear hI H1;cases rest with
  | nil=>
    gi_wp2
    go_end0
    exact ⟨⟨_,rfl⟩,_,_,HI.out,fun y t e=>by cases e⟩
  | cons x rest=>
    have ed:(List.getD (x :: rest) 0 Itm.z:Jp).due=x.due:=rfl;have ee:(!(x :: rest).isEmpty)=true:=rfl;rw [ed,ee];cases hd:iH now x
    ·have d1:decide (x.due≤now)=false:=hd
     gi_wp2
     go_end0
     exact ⟨⟨_,rfl⟩,_,_,HI.out,fun y t e=>by cases e;exact hd⟩
    ·have d1:decide (x.due≤now)=true:=hd
     obtain ⟨g,hg1,hg2⟩:=HI.out.at_;have c2:=hg1.head.cell (i:=2) (v:=↑(π rb)) rfl;have b0:=HI.out.bb.cell (i:=0) rfl;have HSh:=lh (DF rb g x rest wr hg1.row);have HG1:=lh hg1;have HG2:=lh hg2;clear hg1 hg2 hd
     gi_wp2_with (refine ⟨trivial,?_⟩;gi_at_call 247;refine (callsIn_wide.2 HSh.out).mono ?_;rintro e w2 hp;have HS:=lh ((HI.out.shift HJ.out d1 HG1.out HG2.out hp).alloc HJ.out (.cells #[↑x.p.n,↑x.p.size,↑x.p.sent,↑x.p.first,↑x.p.deliv,↑x.p.at_,.bool x.p.lim,↑x.due] 226));obtain rfl:=hp.e;clear hp;unfold gE Jp.agg;obtain ⟨fn,tmps,assign,body,hy,hRd⟩:=HY.out _ x.p _ HS.out.j (by have:=HS.out.e;rw [this];simp);unfold Pk.agg at hy)
     refine hRd.mono ?_;rintro e W3 ⟨rfl,hj3,hs3,hk3⟩;have HI3:=lh (HS.out.round hs3 hk3 hj3);have hb3:=HI3.out.bb.cell (i:=0) (v:=↑(π b)) rfl;have HNx:=lh HI3.out.next;have HM:Hid (LJ wr rb=rest.length + 1):=lh (by rw [xW HG1.out.row];rfl);clear hj3 hs3 hk3 HS hRd hy HSh n0' b0 c2 d1 HG1 HG2 HI
     gi_wp2_with (refine ⟨trivial,?_⟩;gi_at_call 246;refine (callsIn_wide.2 HNx.out).mono ?_;rintro e w4 ⟨rfl,hb4⟩;have HI4:=lh (HI3.out.to HJ.out hb4);clear hb4)
     go_roundw
     case rel=>exact ⟨_,rest,rfl,rfl,HI4.out⟩
     case measure=>
      obtain ⟨g',hg',_⟩:=HI4.out.at_;rw [HM.out,xW hg'.row];exact Nat.lt_succ_self _
end

section
open Go.RowKit Go.Shelf
attribute [local go_sem] Oper.semAt_some
structure DuB (b rb g0 n0 bb bn now:Nat) (s:BxS) (w:World):Prop where
 at_:∃g,dX w b rb g s∧(g=g0∨n0≤g)
 bb:Blk w bb 87 #[↑(π b)]
 bn:Blk w bn 22 #[↑now]
 sz:n0≤↑w
def DuE (b rb g0 n0 now:Nat) (s:BxS) (xs:List Pk) (w:World):Prop:=xs=s.told now∧∃g,dX w b rb g (s.outB now)∧(g=g0∨n0≤g)
def KrS (A B:World):Prop:=A.heap.size≤↑B∧KrJ A B
theorem LL (n b rb g0 n0 bb bn now:Nat) (s:BxS) (hn:1≤n):
  QN n prog 245 #[↑(π bb),↑(π bn)] (fun x:Pk=>#[x.agg]) (fun pre _=>pre.length < s.l.length) (StJ rb g0 n0) KrS (DuB b rb g0 n0 bb bn now s) (DuE b rb g0 n0 now s):=fun l J W hJ hY hR h0=>by
 refine (SO n l b rb g0 n0 bb bn now s hn J W hJ hY ⟨rfl,(fun y hy=>absurd hy (by simp)),hR.at_,hR.bb,hR.bn,hR.sz,h0⟩).mono ?_;rintro e W' ⟨hv,pre,rest,hI,hr⟩;obtain ⟨e1,e2⟩:=zG (f:=iH now) hI.due hr;rw [← hI.e] at e1 e2;exact ⟨hv,_,⟨by unfold BxS.told;rw [e1],by
  obtain ⟨g,h1,h2⟩:=hI.at_;have:s.outB now=⟨s.delay,s.jit,rest,s.last⟩:=by unfold BxS.outB;rw [e2]
  rw [this];exact ⟨g,h1,h2⟩⟩,hI.j⟩
theorem LM (p:Option Addr) (now:Nat) (w:World):
  Calls prog 189 #[.pointer p,↑now] w fun e w'=>e=.returned (.func (.func 245) #[] #[↑(π w.heap.size),↑(π (w.heap.size + 1))])∧w'=(w.alloc (.cells #[.pointer p] 87)).alloc (.cells #[↑now] 22):=by
 go_enter func189,ntmps189;go_wp2;go_ret;exact ⟨rfl,rfl⟩
theorem nK (o':Obj):Fr A (A.putObj l o') [l]:=by
 have g:=grownBy_putObj' A l o';exact ⟨g.os,g.tape,g.output,g.size,fun k hk hn=>g.block k hk (fun e=>hn (by cases e;simp))⟩
theorem QW {B:Nat} {W':World} {L:List Nat} (h:Fr W W' L) (hL:∀x∈L,↑W≤x∨∃T cs,Blk W x T cs):KeepsFrom B W W':=⟨h.size,fun k ob _ hk ho=>by
 have hlt:=(Array.getElem?_eq_some_iff.1 hk).1;refine (h.block k hlt (fun hm=>?_)).trans hk;rcases hL k hm with c | ⟨T,cs,hb⟩
 ·omega
 ·unfold Blk at hb
  rw [hb] at hk;cases hk;cases ho⟩
structure OuI (W:World) (rb g0:Nat) (pre:List Pk) (w:World):Prop where
 box:∃v,Blk w W.heap.size 67 #[v]∧bQ 73 W.heap.size w v pre
 fr:Fr W w [rb,g0]
theorem OuI.st {pre:List Pk} (h:OuI W rb g0 pre A) (k:StJ rb g0 W.heap.size A B):OuI W rb g0 pre B:=by
 obtain ⟨⟨v,h1,h2⟩,f⟩:=h;refine ⟨⟨v,k.blk h1 (by decide) (by decide),h2.blk (fun g cs _ hb=>k.blk hb (by decide) (by decide))⟩,?_⟩;obtain ⟨L,f2,hL⟩:=k;exact f.trans f2 (fun x hx=>by have:=(hL x hx).1;simp;omega)
theorem OuI.put {pre:List Pk} (h:OuI W rb g0 pre A) (hl:↑W≤l) (hk:A.heap[l]? =some ob) (ho:ob.isCells=false) (o':Obj):OuI W rb g0 pre (A.putObj l o'):=by
 obtain ⟨⟨v,h1,h2⟩,f⟩:=h;have nl:∀{x T cs},Blk A x T cs→x≠l:=fun {x T cs} hb e=>by
  subst e;unfold Blk at hb;rw [hk] at hb;cases hb;cases ho
 exact ⟨⟨v,h1.fr (nK o') (by simpa using nl h1),h2.blk (fun g cs _ hb=>hb.fr (nK o') (by simpa using nl hb))⟩,f.trans (nK o') (fun x hx=>by simp at hx;subst hx;exact .inr hl)⟩
theorem OuI.round {w5:World} {pre:List Pk} {x:Pk} {v v':Value} (h1:Blk A W.heap.size 67 #[v]) (h2:bQ 73 W.heap.size A v pre) (f:Fr W A [rb,g0]) (hr:rb < W.heap.size∧g0 < W.heap.size)
  (hown:w5.ownsRow W.heap.size 73 7 v' (pre.length + 1) (pre.flatMap Itm.cs ++ Itm.cs x)) (hg:(A.alloc ob).grownBy w5 v.ownBlock) (B:Nat):
  KeepsFrom B A (w5.setCell ⟨W.heap.size,0,none⟩ v')∧KrS A (w5.setCell ⟨W.heap.size,0,none⟩ v')∧OuI W rb g0 (pre ++ [x]) (w5.setCell ⟨W.heap.size,0,none⟩ v'):=by
 have vb:∀k∈v.ownBlock.toList,↑W≤k∧k≠W.heap.size∧∃cs,Blk A k 73 cs:=fun k hk=>by
  obtain ⟨a1,cs,a2⟩:=h2.own k (by simpa using hk);exact ⟨a1,a2.ty h1 (by decide),cs,a2⟩
 have f1:Fr A w5 v.ownBlock.toList:=((Fr.refl A v.ownBlock.toList).alloc ob).trans (l':=v.ownBlock.toList) ⟨hg.os,hg.tape,hg.output,hg.size,fun k hk hl=>hg.block k hk (fun e=>hl (by rw [← e];simp))⟩ (fun y hy=>.inl hy);have f2:Fr A (w5.setCell ⟨W.heap.size,0,none⟩ v') (W.heap.size :: v.ownBlock.toList):=(f1.mono (fun y hy=>.inl (List.mem_cons_of_mem _ hy))).set (.inl List.mem_cons_self) 0 _;have b5:Blk w5 W.heap.size 67 #[v]:=h1.fr f1 (fun hm=>(vb _ hm).2.1 rfl);have s5:bQ 73 W.heap.size w5 v' (pre ++ [x]):=bQ.snoc hown;refine ⟨QW f2 (fun y hy=>?_),⟨f2.size,fun k T cs t1 t2 hb=>hb.fr f2 (fun hm=>?_)⟩,⟨⟨v',b5.set 0 v',s5.blk (fun g cs _ hb=>hb.set_other 0 v' (hb.ty b5 (by decide)))⟩,f.trans f2 (fun y hy=>?_)⟩⟩
 ·rcases List.mem_cons.1 hy with rfl | hy
  ·exact .inr ⟨_,_,h1⟩
  ·obtain ⟨_,_,cs,hc⟩:=vb y hy;exact .inr ⟨_,cs,hc⟩
 ·rcases List.mem_cons.1 hm with rfl | hm
  ·exact hb.ty h1 t2 rfl
  ·obtain ⟨_,_,cs2,hc⟩:=vb k hm;exact hb.ty hc t1 rfl
 ·rcases List.mem_cons.1 hy with rfl | hy
  ·exact .inr (Nat.le_refl _)
  ·exact .inr (vb y hy).1
structure LO (W:World) (b rb g0:Nat) (l:List Pk) (s:BxS) (e:Ending) (w:World):Prop where
 e:∃v,e=.returned v∧bQ 73 W.heap.size w v l
 at_:∃g,dX w b rb g s∧(g=g0∨W.heap.size≤g)
 fr:Fr W w [b,rb,g0]
theorem O6 (b rb g0 now:Nat) (s:BxS) (W:World) (h:dX W b rb g0 s) (hm:s.l.length≤5500):
  Calls prog 138 #[↑(π b),↑now] W (LO W b rb g0 (s.told now) (s.outB now)):=by
 have hlt:=h.lt;have HB0:Hid (Blk (((W.alloc (.cells #[.slice none 0 0] 67)).alloc (.cells #[↑(π b)] 87)).alloc (.cells #[↑now] 22)) W.heap.size 67 #[.slice none 0 0]):=lh (((Blk.new _ _ _).alloc _).alloc _);have HB1:Hid (Blk (((W.alloc (.cells #[.slice none 0 0] 67)).alloc (.cells #[↑(π b)] 87)).alloc (.cells #[↑now] 22)) (W.heap.size + 1) 87 #[↑(π b)]):=lh ((Blk.new1 _ _ _ _).alloc _);have HB2:Hid (Blk (((W.alloc (.cells #[.slice none 0 0] 67)).alloc (.cells #[↑(π b)] 87)).alloc (.cells #[↑now] 22)) (W.heap.size + 1 + 1) 22 #[↑now]):=lh (by
  have:=Blk.new1 (W.alloc (.cells #[.slice none 0 0] 67)) (.cells #[↑(π b)] 87) 22 #[↑now];simpa using this)
 have HBe:Hid (Below ↑W W (((W.alloc (.cells #[.slice none 0 0] 67)).alloc (.cells #[↑(π b)] 87)).alloc (.cells #[↑now] 22))):=lh ((((Below.refl _ _).alloc (Nat.le_refl _) _).alloc (by simp) _).alloc (by simp;omega) _);have HSz:Hid ((((W.alloc (.cells #[.slice none 0 0] 67)).alloc (.cells #[↑(π b)] 87)).alloc (.cells #[↑now] 22)).heap.size=W.heap.size + 3):=lh (by simp);have HH:=lh h;have HSeq:=lh (LL 5 b rb g0 W.heap.size (W.heap.size + 1) (W.heap.size + 1 + 1) now s (by omega));obtain ⟨i0,hi0,hz0,hz1,hz2⟩:=info_parts D5;have HI:=lh hi0;have HZ0:=lh hz0;have HZ1:=lh hz1;have HZ2:=lh hz2;clear hi0 hz0 hz1 hz2 h;refine (callsIn_wide (n:=6)).1 ?_;refine callsIn_of_wp_marks func138 rfl trivial ?_ rfl;simp only [ntmps138,List.size_toArray,List.length_cons,List.length_nil,Nat.reduceAdd,Nat.reduceSub,Array.replicate_succ,Array.replicate_zero,List.push_toArray,List.append_toArray,List.nil_append,List.cons_append]
 gi_wp2_with (refine ⟨trivial,?_⟩;gi_at_call 189;refine (callsIn_wide.2 (LM _ _ _)).mono ?_;rintro e w' ⟨rfl,rfl⟩)
 have HI0:Hid (OuI W rb g0 [] (((W.alloc (.cells #[.slice none 0 0] 67)).alloc (.cells #[↑(π b)] 87)).alloc (.cells #[↑now] 22))):=lh ⟨⟨_,HB0.out,bQ.nil _ _ _⟩,Fr.of_below HBe.out _⟩;have HD0:Hid (DuB b rb g0 W.heap.size (W.heap.size + 1) (W.heap.size + 1 + 1) now s (((W.alloc (.cells #[.slice none 0 0] 67)).alloc (.cells #[↑(π b)] 87)).alloc (.cells #[↑now] 22))):=lh ⟨⟨g0,HH.out.keep HBe.out,.inl rfl⟩,HB1.out,HB2.out,HBe.out.size⟩;clear HB0 HB1 HB2 HBe HH;generalize (((W.alloc (.cells #[.slice none 0 0] 67)).alloc (.cells #[↑(π b)] 87)).alloc (.cells #[↑now] 22))=w2 at *;refine fB.2 (gf:=245) (lb:=#[↑(π (W.heap.size + 1)),↑(π (W.heap.size + 1 + 1))]) rfl (enters_of func245 (by kernel_rfl) rfl) HSeq.out (fun _=>rfl)
  (fun A B h=>h.other) (fun A B C h k=>⟨Nat.le_trans h.1 k.1,h.2.trans k.2⟩) (fun A l ob o' hk ho=>⟨by simp [World.putObj],KrJ.put o' hk ho⟩)
  (fun ob o'=>?r0) (fun xs A l ob o' h hk ho=>?sp) (OuI W rb g0) (fun pre A B h k=>h.st k) (fun ob o'=>(HI0.out.st (StJ.below (aC _ _))).st (StJ.below (aC _ _))) (fun pre A l ob o' h hl hk ho=>h.put (by have:=HSz.out;omega) hk ho o')
  (fun x a' A=>∃q,a'={tmps:=#[↑(π b),↑now,undef,undef,.slice none 0 0,↑(π W.heap.size),↑(π q),↑(π b),↑now,.func (.func 245) #[] #[↑(π (W.heap.size + 1)),↑(π (W.heap.size + 1 + 1))],x.agg,undef,undef,undef,undef,undef],defers:=[]}∧Blk A q 73 #[↑x.n,↑x.size,↑x.sent,↑x.first,↑x.deliv,↑x.at_,.bool x.lim]) (fun x a' A l ob o' h hk ho=>?ap) ?assign ?body ?done
 case r0=>
  obtain ⟨⟨g,h1,h2⟩,h3,h4,h5⟩:=HD0.out;have k:=(aC w2 ob).trans ((aC (w2.alloc ob) o').mono (by simp));exact ⟨⟨g,h1.keep k,h2⟩,h3.keep k,h4.keep k,Nat.le_trans h5 k.size⟩
 case sp=>
  obtain ⟨h1,g,h2,h3⟩:=h;exact ⟨h1,g,h2.kr (KrJ.put o' hk ho),h3⟩
 case ap=>
  obtain ⟨q,h1,h2⟩:=h;refine ⟨q,h1,h2.fr (nK o') (fun hm=>?_)⟩;simp at hm;subst hm
  unfold Blk at h2;rw [hk] at h2;cases h2;cases ho
 case assign=>
  intro l pre x A K hA hK;have hK:=lh hK;have HA:=lh hA;clear hA HI0 HD0 HSeq;unfold Pk.agg at hK ⊢
  gi_wp2
  exact hK.out _ _ ((KeepsOthers.alloc _ _).from _) ⟨by simp,KrJ.below (aC _ _)⟩ (HA.out.st (StJ.below (aC _ _))) ⟨_,rfl,Blk.new _ _ _⟩
 case body=>
  rintro l pre x a' A hA ⟨q,rfl,hq⟩ hpl;obtain ⟨⟨v,h1,h2⟩,f⟩:=hA;obtain ⟨ao,cap,hv,hc1,hc2,_,_⟩:=h2.form;subst hv;have c0:=h1.cell (i:=0) (v:=.slice ao pre.length cap) rfl;have q0:=hq.cell (i:=0) (v:=↑x.n) rfl;have q1:=hq.cell (i:=1) (v:=↑x.size) rfl;have q2:=hq.cell (i:=2) (v:=↑x.sent) rfl;have q3:=hq.cell (i:=3) (v:=↑x.first) rfl;have q4:=hq.cell (i:=4) (v:=↑x.deliv) rfl;have q5:=hq.cell (i:=5) (v:=↑x.at_) rfl;have q6:=hq.cell (i:=6) (v:=.bool x.lim) rfl;have H1:=lh h1;have H2:=lh h2;have HF:=lh f;have HP2:=lh (h2.keep (aC A (.cells #[↑x.n,↑x.size,↑x.sent,↑x.first,↑x.deliv,↑x.at_,.bool x.lim] 73)));have HNw:=lh (World.news_of_block (Blk.new A 73 #[↑x.n,↑x.size,↑x.sent,↑x.first,↑x.deliv,↑x.at_,.bool x.lim]));have HOne:=lh (Itm.one x);have hsz:W.heap.size≤(A.alloc (.cells #[↑x.n,↑x.size,↑x.sent,↑x.first,↑x.deliv,↑x.at_,.bool x.lim] 73)).heap.size:=by have:=f.size;simp;omega
  have hpl':pre.length≤5500:=by omega
  clear h1 h2 f hq HI0 HD0 HSeq hpl
  gi_wp2_with (gi_at_builtin;refine wpListIn_append_own _ rfl _ _ 67 rfl W.heap.size 73 i0 (.agg #[↑ζ,↑ζ,↑ζ,↑ζ,↑ζ,↑ζ,.bool false]) 7 56 underlying67 HI.out HZ0.out HZ1.out HZ2.out rfl (by decide) (.slice ao pre.length cap) pre.length (pre.flatMap Itm.cs) rfl HP2.out ⟨A.heap.size,0,none⟩ 1 1 (Itm.cs x) rfl rfl HNw.out HOne.out (by unfold maxLen;omega) (by omega) hsz ?_;intro v' w5 hown hgr _;obtain ⟨g',cap',rfl⟩:=ownsRow_succ hown;have HOw:=lh hown;have HGr:=lh hgr;have u0:w5.cell? ⟨W.heap.size,0,none⟩=some (.slice ao pre.length cap):=((H1.out.alloc _).grown hgr (fun e=>(H2.out.own _ e.symm).2.elim fun cs hc=>hc.ty H1.out (by decide) rfl)).cell (i:=0) rfl;have u1:=((H1.out.alloc _).grown hgr (fun e=>(H2.out.own _ e.symm).2.elim fun cs hc=>hc.ty H1.out (by decide) rfl)).free 0;clear hown hgr)
  exact OuI.round H1.out H2.out HF.out ⟨hlt.2.1,hlt.2.2⟩ HOw.out HGr.out _
 case done=>
  rintro D xs A hD hDl ⟨rfl,g,hB,hg⟩ hA hK;have hA2:=hA.put (by have:=HSz.out;omega) hK rfl (.deferred none);have hB2:=hB.kr (KrJ.put (.deferred none) hK rfl);obtain ⟨⟨v,h1,h2⟩,f⟩:=hA;obtain ⟨⟨v2,h3,h4⟩,f2⟩:=hA2;have ev:v2=v:=by
   have e1:=h1.fr (nK (.deferred none)) (l:=[D]) (by
    simp
    intro e;subst e;unfold Blk at h1;rw [hK] at h1;cases h1)
   unfold Blk at e1 h3;rw [e1] at h3;simpa using h3.symm
  subst ev;have c0:=h1.cell (i:=0) (v:=v2) rfl;have H4:=lh h4;have HF:=lh f2;have HB2:=lh hB2;have HK:=lh hK;have HG:=lh hg;clear h1 h2 f h3 h4 f2 hB hB2 hK hg HI0 HD0 HSeq hD hDl
  gi_wp2
  refine ⟨by simp,.inl ⟨_,_,rfl,run_takeDeferred HK.out,?_⟩⟩;refine ⟨v2,?_,⟨v2,rfl,H4.out⟩,⟨g,HB2.out,HG.out⟩,HF.out.mono (fun y hy=>.inl (by simp at hy ⊢;omega))⟩;simp [results,Tryz.f138]
end
end Go.Proofs.YtjhiooggnpbecaaGreatDoor
