/- Lemmas. -/
import Derived.Test.YtjhiooggnpbecaaGreatDoorK432
import Derived.Test.YtjhiooggnpbecaaGreatDoorK433
set_option linter.unusedVariables false
set_option maxHeartbeats 4000000
namespace Go.Proofs.YtjhiooggnpbecaaGreatDoor
open Tryz
variable {ad:Addr} {B1 b cap g n off:Nat} {v:Value} {w wr:World}
section
open Go.RowKit Go.Sort
def cfR (x y:Rn):Int:=gB x.a y.a
theorem ltR (x y:Rn):ltOf cfR x y=decide (x.a < y.a):=by
 unfold ltOf cfR;have:=rQ x.a y.a;simp [this]
theorem SA:SWO (ltOf cfR) where
 irrefl x:=by rw [ltR];simp
 trans x y z h1 h2:=by rw [ltR] at *;simp at *;omega
 ntrans x y z h1 h2:=by rw [ltR] at *;simp at *;omega
theorem sY (l:List Rn):(flatK (Itm.cs (α:=Rn)) 2 l.toArray).toList=rcs l:=by
 apply List.ext_getElem?;intro t
 have hs:(flatK (Itm.cs (α:=Rn)) 2 l.toArray).size=l.length * 2:=by simp
 by_cases h:t < l.length * 2
 ·have e:=tV (α:=Rn) l (t / 2) (t % 2) (by show t % 2 < 2;omega)
  have k2:Itm.k Rn=2:=rfl;rw [k2,show t / 2 * 2 + t % 2=t by omega] at e;rw [show rcs l=l.flatMap (Itm.cs (α:=Rn)) from rfl,e];have hl:t / 2 < l.length:=by omega
  have g:=get_flatK (Itm.cs (α:=Rn)) 2 l.toArray t (by simpa using h);have ht:t < (flatK (Itm.cs (α:=Rn)) 2 l.toArray).size:=by omega
  rw [getElem!_pos _ t ht] at g;rw [Array.getElem?_toList,Array.getElem?_eq_getElem ht,g];simp [hl]
  have hc:(Itm.cs l[t / 2]).length=2:=Itm.len (α:=Rn) _;rw [List.getElem?_eq_getElem (by omega)];simp
 ·rw [List.getElem?_eq_none (by simp;omega),List.getElem?_eq_none (by have:=cL (α:=Rn) l;have k2:Itm.k Rn=2:=rfl;rw [k2] at this;show (l.flatMap _).length≤t;omega)]
theorem RR.holds {l:List Rn} (h:RR w (.slice (some ⟨g,0,none⟩) n cap) l):HoldsK (Itm.cs (α:=Rn)) 2 w g 0 l.toArray:=by
 obtain ⟨_,cur,hb,_,_,h3,h4⟩:=h.inv;intro j hj;have hj':j < n * 2:=by simp at hj;have:=h.inv.1;omega
 refine ⟨?_,hb.free _⟩;rw [Nat.zero_add];refine hb.cell ?_;have e:(rcs l)[j]? =some (flatK (Itm.cs (α:=Rn)) 2 l.toArray)[j]!:=by
  rw [← sY,Array.getElem?_toList,Array.getElem?_eq_getElem hj,getElem!_pos _ j hj]
 rw [← h4,List.getElem?_take_of_lt hj'] at e;simpa using e
theorem RR.sorted {l l':List Rn} (h:RR w (.slice (some ⟨g,0,none⟩) n cap) l) (hl:l'.length=l.length) (m:Nat) (os:Array Obj):
  RR (sortWorldK (Itm.cs (α:=Rn)) 2 w g 0 m l'.toArray os) (.slice (some ⟨g,0,none⟩) n cap) l'∧Fr w (sortWorldK (Itm.cs (α:=Rn)) 2 w g 0 m l'.toArray os) [g]:=by
 obtain ⟨hn,cur,hb,h1,h2,h3,h4⟩:=h.inv;have hlt:=hb.lt;have hw:(sortWorldK (Itm.cs (α:=Rn)) 2 w g 0 m l'.toArray os).heap=w.heap.modify g (onCells (putCells id 0 (flatK (Itm.cs (α:=Rn)) 2 l'.toArray))) ++ os:=rfl;have hold:∀k,k < w.heap.size→(sortWorldK (Itm.cs (α:=Rn)) 2 w g 0 m l'.toArray os).heap[k]? =(w.heap.modify g (onCells (putCells id 0 (flatK (Itm.cs (α:=Rn)) 2 l'.toArray))))[k]?:=fun k hk=>by
  rw [hw,Array.getElem?_append_left (by simpa using hk)]
 refine ⟨RR.mk (cur:=putCells id 0 (flatK (Itm.cs (α:=Rn)) 2 l'.toArray) cur) (by omega) ?_ h1 h2 ?_ ?_,⟨rfl,rfl,rfl,?_,fun k hk hg=>?_⟩⟩
 ·unfold Blk at hb ⊢
  rw [hold g hlt,Array.getElem?_modify,if_pos rfl,hb];rfl
 ·simp [putCells,h3]
 ·apply List.ext_getElem?;intro t
  by_cases ht:t < n * 2
  ·have hc:t < cur.size:=by omega
   have hF:t < (flatK (Itm.cs (α:=Rn)) 2 l'.toArray).size:=by simp;omega
   rw [List.getElem?_take_of_lt ht,← sY,Array.getElem?_toList,Array.getElem?_toList,putCells,Array.getElem?_mapIdx,Array.getElem?_eq_getElem hc,Array.getElem?_eq_getElem hF];simp only [Option.map_some];rw [if_pos ⟨Nat.zero_le _,by omega⟩,getElem!_pos _ _ (by omega)];simp
  ·rw [List.getElem?_eq_none (by simp;omega),List.getElem?_eq_none (by have:=cL (α:=Rn) l';have k2:Itm.k Rn=2:=rfl;rw [k2] at this;show (l'.flatMap _).length≤t;omega)]
 ·rw [hw];simp
 ·rw [hold k hk,Array.getElem?_modify,if_neg (by simp at hg;omega)]
def KO (g n cap:Nat) (l:List Rn) (w:World) (e:Ending) (w':World):Prop:=e=.returned (.tuple #[])∧∃l',l'.Perm l∧BM l'∧RR w' (.slice (some ⟨g,0,none⟩) n cap) l'∧Fr w w' [g]
theorem FQ (g cap:Nat) (l:List Rn) (w:World) (h:RR w (.slice (some ⟨g,0,none⟩) l.length cap) l) (hb:l.length≤1000000):
  Calls prog 107 #[.slice (some ⟨g,0,none⟩) l.length cap,.func (.func 108) #[] #[]] w (KO g l.length cap l w):=by
 obtain ⟨_,cur,hbk,_⟩:=h.inv;have eg:∀args w,(callFunc 108 args).run prog w=.ok (.enter 108 args) w:=enters_of func108 (by kernel_rfl) rfl;have hcon:=AnyQ.slices_SortFunc Tryz.sortR 2 Tryz.isAgg190 Tryz.sizeOf190 (Itm.cs (α:=Rn)) (fun x=>Itm.len x) (fun x v hv=>Itm.one x v hv) cfR SA 108 #[] g 0 cap l.toArray w eg
  (fun m os dk _ x y=>uE x y _) h.holds hbk.lt (by simp;omega)
 change Calls prog 107 _ _ _ at hcon
 refine hcon.mono ?_;rintro e w' ⟨he,d',m,os,hp,hs,rfl⟩;have hsz:d'.size=l.length:=by have:=hp.1;simpa using this
 have hperm:d'.toList.Perm l:=by
  have:=hp.2.2;simpa [Array.extract_eq_self_of_le,hsz] using this
 obtain ⟨h1,h2⟩:=h.sorted (l':=d'.toList) (by simp [hsz]) m os;refine ⟨he,d'.toList,hperm,?_,by simpa using h1,by simpa using h2⟩;unfold BM;rw [List.pairwise_iff_getElem];intro i j hi hj hij;have:=hs i j (Nat.zero_le _) hij (by simpa [hsz] using hj);rw [ltR] at this;simp at hi hj this ⊢
 rw [getElem!_pos _ i hi,getElem!_pos _ j hj] at this;simpa using this
end

section
open Go.RowKit
def FR:Value→Nat
 | .slice _ n _=>n
 | _=>0
def SlR (w:World) (s:Value) (R:List Rn):Prop:=∃ad c,s=.slice (some ad) R.length c∧R.length≤c∧c≤9223372036854775807∧Its w (some ad) R
theorem SlR.tail {x:Rn} {R:List Rn} (h:Its w (some ⟨b,off,none⟩) (x :: R)):Its w (some ⟨b,off + 2,none⟩) R:=by
 intro hp;obtain ⟨b',off',e,hb,hc⟩:=h (by simp);injection e with e;injection e with e1 e2
 subst e1 e2;refine ⟨b,off + 2,rfl,hb,fun i j hi hj=>?_⟩;have k2:Itm.k Rn=2:=rfl;have:=hc (i + 1) j (by simp;omega) hj;rw [k2] at this ⊢;rw [show off + 2 + (i * 2 + j)=off + ((i + 1) * 2 + j) by omega,this];simp [List.getD_eq_getElem?_getD]
theorem SlR.tail1 {x:Rn} {R:List Rn} (h:Its w (some ⟨b,off,none⟩) (x :: R)) (hc:(x :: R).length≤1) (ad:Addr):Its w (some ad) R:=by
 have:R=[]:=List.eq_nil_of_length_eq_zero (by have:R.length + 1≤1:=hc;omega);subst this;exact Its.none _ _
def FT (w:World) (D:List Rn) (s v:Value) (wr:World):Prop:=
 ∃P R,SlR w s R∧RR wr v P∧(∀g,v.ownBlock=some g→↑w≤g)∧Below ↑w w wr∧tog D=P ++ tog R∧P.length + R.length≤D.length∧∀r∈R,r.ok
def FU (w:World) (D P:List Rn) (B1:Nat) (v:Value) (N0:Nat) (s:Value) (wr:World):Prop:=
 ∃cur R,SlR w s R∧R.length < N0∧Blk wr B1 190 #[↑cur.a,↑cur.b]∧RR wr v P∧Below ↑w w wr∧tog D=P ++ goR cur R∧cur.ok∧P.length + 1 + R.length≤D.length∧∀r∈R,r.ok
theorem xL {w2:World} {D P R:List Rn} {cur:Rn} {s:Value} {o:Obj} {g' cap':Nat} (HB:Below ↑w w wr) (HOwn:∀g,v.ownBlock=some g→↑w≤g)
  (HR:RR w2 (.slice (some ⟨g',0,none⟩) n cap') (P ++ [cur])) (HG:(wr.alloc o).grownBy w2 v.ownBlock) (HA:some g'=v.ownBlock∨g'=(wr.alloc o).heap.size)
  (HS:SlR w s R) (HT:tog D=P ++ goR cur R) (HN:P.length + 1 + R.length≤D.length) (HOk:∀r∈R,r.ok) (hE:goR cur R=cur :: tog R):FT w D s (.slice (some ⟨g',0,none⟩) n cap') w2:=by
 have b1:Below ↑w w (wr.alloc o):=HB.alloc HB.size o;refine ⟨P ++ [cur],R,HS,HR,fun g e=>?_,b1.grown HG b1.size HOwn,?_,?_,HOk⟩
 ·simp [Value.ownBlock] at e
  subst e;rcases HA with k | k
  ·exact HOwn _ k.symm
  ·rw [k];exact b1.size
 ·rw [HT,hE];simp
 ·simp;omega
theorem sZ {wo:World} {D P R:List Rn} {x:Rn} {c1:Nat} (HB:Below ↑w w wo) (HV:RR wo v P) (HI:Its w (some ⟨b,off,none⟩) (x :: R)) (HT:tog D=P ++ goR x R) (HN:P.length + (x :: R).length≤D.length)
  (HOk:∀r∈x :: R,r.ok) (k1:R.length + 1≤c1) (k2:c1≤9223372036854775807) (h:(c1=1∧ad=⟨b,off,none⟩)∨ad=⟨b,off + 2,none⟩):
  FU w D P wo.heap.size v (R.length + 1) (.slice (some ad) R.length (c1 - 1)) (wo.alloc (.cells #[↑x.a,↑x.b] 190)):=by
 refine ⟨x,R,⟨ad,c1 - 1,rfl,by omega,by omega,?_⟩,by omega,Blk.new _ _ _,HV.keep ((Below.refl _ _).alloc (Nat.le_refl _) _),HB.alloc HB.size _,HT,HOk x List.mem_cons_self,by have:(x :: R).length=R.length + 1:=rfl;omega,fun r hr=>HOk r (List.mem_cons_of_mem _ hr)⟩;rcases h with ⟨h1,rfl⟩ | rfl
 ·exact SlR.tail1 HI (by show R.length + 1≤1;omega) _
 ·exact SlR.tail HI
def FV (w:World) (B1:Nat) (v:Value) (P:List Rn) (a z:Nat) (w':World):Prop:=Blk w' B1 190 #[↑a,↑z]∧RR w' v P∧Below ↑w w w'
theorem xM {P:List Rn} {cur:Rn} (HO:Blk wr B1 190 #[↑cur.a,↑cur.b]) (HV:RR wr v P) (HB:Below ↑w w wr) (z:Nat) (hz:z=cur.b) (o:Obj):FV w B1 v P cur.a z (wr.alloc o):=by
 subst hz;exact ⟨HO.alloc o,HV.keep ((Below.refl _ _).alloc (Nat.le_refl _) _),HB.alloc HB.size o⟩
theorem FX {P:List Rn} {cur y:Rn} (HO:Blk wr B1 190 #[↑cur.a,↑cur.b]) (HV:RR wr v P) (HB:Below ↑w w wr)
  (HLt:∀g,v.ownBlock=some g→g < B1) (HSz:↑w≤B1) (z:Nat) (hz:z=y.b) (o:Obj):FV w B1 v P cur.a z ((wr.setCell ⟨B1,1,none⟩ ↑y.b).alloc o):=by
 subst hz;have b1:Below ↑w w (wr.setCell ⟨B1,1,none⟩ ↑y.b):=HB.setCell (p:=⟨B1,1,none⟩) HSz _;have v1:RR (wr.setCell ⟨B1,1,none⟩ ↑y.b) v P:=HV.same fun g cs e hb=>Below.heap_setCell _ _ _ _ (by
  have:=HLt g e;show g≠B1
  omega)
 exact ⟨(HO.set 1 _).alloc o,v1.keep ((Below.refl _ _).alloc (Nat.le_refl _) o),b1.alloc b1.size o⟩
theorem mA {w':World} {D P T:List Rn} {cur y:Rn} {c2 c3 N0:Nat} (z:Nat) (hz:z < 18446744073709551615) (HT:tog D=P ++ goR ⟨cur.a,z⟩ T) (HN:P.length + 1 + (y :: T).length≤D.length)
  (HOk:∀r∈y :: T,r.ok) (HJ:cur.ok) (HM:(y :: T).length < N0) (HI:Its w (some ⟨b,off,none⟩) (y :: T)) (k1:T.length + 1≤c2) (k2:c2≤9223372036854775807) (h:(c2=1∧ad=⟨b,off,none⟩)∨ad=⟨b,off + 2,none⟩) (hc3:c3=c2 - 1)
  (hm:FV w B1 v P cur.a z w') (hle:cur.b≤z):FU w D P B1 v N0 (.slice (some ad) T.length c3) w':=by
 obtain ⟨m1,m2,m3⟩:=hm;have hl:(y :: T).length=T.length + 1:=rfl;refine ⟨⟨cur.a,z⟩,T,⟨ad,c3,rfl,by omega,by omega,?_⟩,by omega,m1,m2,m3,HT,⟨by have:=HJ.le;show cur.a≤z;omega,hz⟩,by omega,fun r hr=>HOk r (List.mem_cons_of_mem _ hr)⟩;rcases h with ⟨h1,rfl⟩ | rfl
 ·exact SlR.tail1 HI (by show T.length + 1≤1;omega) _
 ·exact SlR.tail HI
theorem qV (D:List Rn) (ad:Addr) (c:Nat) (w:World) (hD:Its w (some ad) D) (hc:D.length≤c) (hcm:c≤9223372036854775807) (hm:D.length≤5500) (ho:∀r∈D,r.ok):
  Calls prog 111 #[.slice (some ad) D.length c] w (jW w (tog D)):=by
 have HD:=lh hD;have HO:=lh ho;clear hD ho;go_enter func111,ntmps111;go_wp2;go_loopw [0,3] (fun s v wr=>FT w D s v wr) (fun s _ _=>FR s)
 case atStart=>exact ⟨[],D,⟨ad,c,rfl,hc,hcm,HD.out⟩,RR.nil _,(fun g e=>by cases e),Below.refl _ _,rfl,by simp,HO.out⟩
 case round=>
  obtain ⟨P,R,⟨ad1,c1,rfl,k1,k2,k3⟩,q1,q2,q3,q4,q5,q6⟩:=hrel;have HOwn:=lh q2;have HV:=lh q1;have HB:=lh q3;have HT:=lh q4;have HN:=lh q5;have HOk:=lh q6;have HI:=lh k3;clear q1 q2 q3 q4 q5 q6 k3 HD HO hc hcm;rcases R with _ | ⟨x,R⟩
  ·go_wp2
   go_ret;exact ⟨_,rfl,by rw [HT.out];simpa [tog] using HV.out,HB.out,HOwn.out⟩
  ·obtain ⟨b,off,rfl,hb,hcc⟩:=fU HI.out (by simp)
   have x0:=(HB.out.cell (p:=⟨b,off,none⟩) hb).trans (hcc 0 (by simp)).1;have x1:=(HB.out.cell (p:=⟨b,off + 1,none⟩) hb).trans (by simpa using (hcc 0 (by simp)).2);have x0':wr.cell? ⟨b,off,none⟩=some ↑x.a:=by simpa using x0
   have x1':wr.cell? ⟨b,off + 1,none⟩=some ↑x.b:=by simpa using x1
   have hlen:(x :: R).length=R.length + 1:=rfl;rw [hlen] at k1 ⊢;clear x0 x1 hcc hlen;obtain ⟨wo,rfl⟩:∃wo,wo=wr:=⟨_,rfl⟩;have HLt:Hid (∀g,u3.ownBlock=some g→g < wo.heap.size):=lh (fun g e=>(World.ownsRow.lt HV.out g e).2);have HSz:Hid (w.heap.size≤↑wo):=lh HB.out.size;have hTi:Hid (tog D=P ++ goR x R):=lh HT.out;by_cases hc1:c1=1
   all_goals
    have hcz:((c1:Int) == 1)=decide (c1=1):=by rw [Bool.eq_iff_iff];simp;omega
    first | rw [decide_eq_true hc1] at hcz | rw [decide_eq_false hc1] at hcz
    go_wp2;go_step3
    go_wp2;go_step3
    go_wp2;go_loopw [0] (fun s wr=>FU w D P wo.heap.size u3 (R.length + 1) s wr) (fun s _=>FR s)
    case atStart=>first | exact sZ HB.out HV.out HI.out hTi.out HN.out HOk.out k1 k2 (.inr rfl) | (have h:=sZ HB.out HV.out HI.out hTi.out HN.out HOk.out k1 k2 (.inl ⟨hc1,rfl⟩);rw [show c1 - 1=0 by omega] at h;exact h)
    case round=>
     clear HB HV HT HN HOk HI hTi x0' x1' hcz hc1;obtain ⟨cur,T,⟨ad2,c2,rfl,j1,j2,j3⟩,jm,jb,jv,jB,jT,jo,jN,jO⟩:=hrel;have HO:=lh jb;have HV:=lh jv;have HB:=lh jB;have HT:=lh jT;have HN:=lh jN;have HOk:=lh jO;have HM:=lh jm;have HS0:Hid (SlR w (.slice (some ad2) T.length c2) T):=lh ⟨ad2,c2,rfl,j1,j2,j3⟩;have ho1:=jo.lt;have HJ:=lh jo;clear jb jv jB jT jN jO jm jo;rcases T with _ | ⟨y,T⟩
     ·
      have hRR:Hid (RR (wr.alloc (.cells #[↑cur.a,↑cur.b] 190)) u3 P):=lh ((HV.out.keep (Below.refl _ _)).keep ((Below.refl _ _).alloc (Nat.le_refl _) _));have hNew:Hid (Its (wr.alloc (.cells #[↑cur.a,↑cur.b] 190)) (some ⟨wr.heap.size,0,none⟩) [cur]):=lh (Its.of_blk (Blk.new _ _ _));have HBW:Hid (Below ↑w w wr):=lh (aD HB.out (Below.refl _ _) HB.out.size);have o0:=HO.out.cell (i:=0) (v:=↑cur.a) rfl;have o1:=HO.out.cell (i:=1) (v:=↑cur.b) rfl;go_wp2_with (at_builtin;(refine cO rfl _ _ rfl u3 P rfl hRR.out (some ⟨wr.heap.size,0,none⟩) 1 1 [cur] rfl rfl Nat.one_pos hNew.out (by have:=HN.out;simp;omega) ?_);intro g' cap' w2 hR hgr hat)
      have HR:=lh hR;have HG:=lh hgr;have HA:=lh hat;clear hR hgr hat o0 o1;go_wp2;go_roundw
      case rel=>((repeat apply Exists.intro);exact ⟨xL HBW.out HOwn.out HR.out HG.out HA.out HS0.out HT.out HN.out HOk.out rfl,rfl⟩)
      case measure=>simp [FR];try (have:=HM.out;simp at this;omega)
     ·obtain ⟨b2,off2,rfl,hb2,hcc⟩:=fU j3 (by simp)
      have y0:wr.cell? ⟨b2,off2,none⟩=some ↑y.a:=by simpa using (HB.out.cell (p:=⟨b2,off2,none⟩) hb2).trans (by simpa using (hcc 0 (by simp)).1)
      have y1:wr.cell? ⟨b2,off2 + 1,none⟩=some ↑y.b:=by simpa using (HB.out.cell (p:=⟨b2,off2 + 1,none⟩) hb2).trans (by simpa using (hcc 0 (by simp)).2)
      have hyo:=(HOk.out y List.mem_cons_self).lt;have hlen2:(y :: T).length=T.length + 1:=rfl;rw [hlen2] at j1 ⊢;clear hlen2 hcc;have J3:=lh j3;clear j3;have p1:=HO.out.cell (i:=1) (v:=↑cur.b) rfl;have f1:=HO.out.free 1;have lt1:=HO.out.lt;by_cases h1:cur.b + 1 < y.a
      ·have HE:Hid (goR cur (y :: T)=cur :: tog (y :: T)):=lh (by rw [goR,if_pos h1];rfl)
       clear f1 p1;have hRR:Hid (RR ((wr.alloc (.cells #[↑y.a,↑y.b] 190)).alloc (.cells #[↑cur.a,↑cur.b] 190)) u3 P):=lh ((HV.out.keep ((Below.refl _ _).alloc (Nat.le_refl _) _)).keep ((Below.refl _ _).alloc (Nat.le_refl _) _));have hNew:Hid (Its ((wr.alloc (.cells #[↑y.a,↑y.b] 190)).alloc (.cells #[↑cur.a,↑cur.b] 190)) (some ⟨wr.heap.size + 1,0,none⟩) [cur]):=lh (Its.of_blk (Blk.new1 _ _ _ _));have HBW:Hid (Below ↑w w (wr.alloc (.cells #[↑y.a,↑y.b] 190))):=lh (aD HB.out ((Below.refl _ _).alloc (Nat.le_refl _) _) HB.out.size);have o0:=HO.out.cell (i:=0) (v:=↑cur.a) rfl;have o1:=HO.out.cell (i:=1) (v:=↑cur.b) rfl;go_wp2_with (at_builtin;(refine cO rfl _ _ rfl u3 P rfl hRR.out (some ⟨wr.heap.size + 1,0,none⟩) 1 1 [cur] rfl rfl Nat.one_pos hNew.out (by have:=HN.out;simp;omega) ?_);intro g' cap' w2 hR hgr hat)
       have HR:=lh hR;have HG:=lh hgr;have HA:=lh hat;clear hR hgr hat o0 o1;go_wp2;go_roundw
       case rel=>((repeat apply Exists.intro);exact ⟨xL HBW.out HOwn.out HR.out HG.out HA.out HS0.out HT.out HN.out HOk.out HE.out,rfl⟩)
       case measure=>simp [FR];try (have:=HM.out;simp at this;omega)
      ·have f2:(wr.alloc (.cells #[↑y.a,↑y.b] 190)).frozen? ⟨wo.heap.size,1,none⟩=false:=((HO.out.alloc _).free 1)
       clear f1;have HT2:Hid (tog D=P ++ goR ⟨cur.a,max cur.b y.b⟩ T):=lh (by rw [HT.out,goR,if_neg h1]);by_cases h2:cur.b < y.b
       all_goals
        by_cases hc2:c2=1
        all_goals
         go_wp2_with fail;go_roundw
         case rel=>
              first
                      | exact mA (max cur.b y.b) (by omega) HT2.out HN.out HOk.out HJ.out HM.out J3.out j1 j2 (.inr rfl) rfl (FX HO.out HV.out HB.out HLt.out HSz.out (max cur.b y.b) (by omega) _) (by omega)
                      | exact mA (max cur.b y.b) (by omega) HT2.out HN.out HOk.out HJ.out HM.out J3.out j1 j2 (.inl ⟨hc2,rfl⟩) (by omega) (FX HO.out HV.out HB.out HLt.out HSz.out (max cur.b y.b) (by omega) _) (by omega)
                      | exact mA (max cur.b y.b) (by omega) HT2.out HN.out HOk.out HJ.out HM.out J3.out j1 j2 (.inr rfl) rfl (xM HO.out HV.out HB.out (max cur.b y.b) (by omega) _) (by omega)
                      | exact mA (max cur.b y.b) (by omega) HT2.out HN.out HOk.out HJ.out HM.out J3.out j1 j2 (.inl ⟨hc2,rfl⟩) (by omega) (xM HO.out HV.out HB.out (max cur.b y.b) (by omega) _) (by omega)
         case measure=>simp [FR]
end
end Go.Proofs.YtjhiooggnpbecaaGreatDoor
