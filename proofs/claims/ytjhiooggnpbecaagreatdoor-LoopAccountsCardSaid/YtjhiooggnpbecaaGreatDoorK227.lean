/- Lemmas. -/
import Derived.Test.YtjhiooggnpbecaaGreatDoorK225
import Derived.Test.YtjhiooggnpbecaaGreatDoorK221
import Derived.Test.YtjhiooggnpbecaaGreatDoorK226
import Derived.Shelf.RegionOpen
import Derived.LoopNIn
import Derived.LoopIn
import Derived.Test.YtjhiooggnpbecaaGreatDoorK208
set_option linter.unusedVariables false
set_option maxHeartbeats 2000000
set_option maxRecDepth 100000
namespace Go.Proofs.YtjhiooggnpbecaaGreatDoor
open Tryz
variable {L l:List Nat} {xs:List Value} {B b bl br cap g g' j k n rb tO:Nat} {o:Obj} {T:TypeId} {v:Value} {W W' w w' w1 w2 wr:World}
section
open Go.RowKit Go.Shelf
attribute [local go_sem] Oper.semAt_some
def inK (fr tO:Nat) (k:Kp):Bool:=decide (fr≤k.p.n) && decide (k.p.n≤tO) && !k.gone
def yK (ks:List Kp) (fr tO:Nat):List Kp:=ks.filter (inK fr tO)
structure RdR (ks:List Kp) (b rb g bl br fr tO:Nat) (pre:List Kp) (W:World):Prop where
 hl:Blk W bl 97 #[↑(π b)]
 hr:Blk W br 190 #[↑fr,↑tO]
 rd:LRd W b rb g ks
 gone:∀k∈ks,k.b ∉ pre.map Kp.b→Blk W k.b 208 (Kp.cells k.p k.gone)
theorem GN {ks:List Kp} (h:(ks.map Kp.b).Nodup) (hj:j < ks.length) (f:Kp→Bool):(kAt ks j).b ∉ (((ks.take j).filter f).map Kp.b):=by
 intro hm;obtain ⟨x,hx,e⟩:=List.mem_map.1 hm;have hx':=(List.mem_filter.1 hx).1;obtain ⟨i,hi,e2⟩:=List.mem_iff_getElem.1 hx';rw [List.length_take] at hi;rw [List.getElem_take] at e2;have h2:=List.pairwise_iff_getElem.1 h i j (by rw [List.length_map];omega) (by rw [List.length_map];omega) (by omega);rw [List.getElem_map,List.getElem_map] at h2;have e3:=iC hj;rw [List.getElem?_eq_getElem hj] at e3;injection e3 with e3
 rw [e3,e2] at h2;exact h2 e
theorem BO {ks:List Kp} (hr:ks.Pairwise fun x y=>x.p.n < y.p.n) (fr tO:Nat):(ks.take (plc ks fr)).filter (inK fr tO)=[]:=by
 rw [List.filter_eq_nil_iff];intro k hk;obtain ⟨i,hi,e⟩:=List.mem_iff_getElem.1 hk;rw [List.length_take] at hi;rw [List.getElem_take] at e;have h1:=BL hr (n:=fr) (i:=i) (by omega);have e3:=iC (ks:=ks) (i:=i) (by omega);rw [List.getElem?_eq_getElem (by omega)] at e3;injection e3 with e3
 rw [e] at e3;rw [← e3] at h1;simp [inK];omega
theorem GO {ks:List Kp} (hr:ks.Pairwise fun x y=>x.p.n < y.p.n) {fr:Nat} (hj:j < ks.length) (h:tO < (kAt ks j).p.n):(ks.take j).filter (inK fr tO)=yK ks fr tO:=by
 unfold yK
 conv=>rhs;rw [← List.take_append_drop j ks,List.filter_append]
 have e:(ks.drop j).filter (inK fr tO)=[]:=by
  rw [List.filter_eq_nil_iff];intro k hk;obtain ⟨i,hi,e⟩:=List.mem_iff_getElem.1 hk;rw [List.length_drop] at hi;rw [List.getElem_drop] at e;have h1:=kS hr (i:=j) (j:=j + i) (by omega) (by omega);have e3:=iC (ks:=ks) (i:=j + i) (by omega);rw [List.getElem?_eq_getElem (by omega)] at e3;injection e3 with e3
  rw [e] at e3;rw [← e3] at h1;simp [inK];omega
 rw [e,List.append_nil]
theorem GP (n l b rb g bl br fr tO:Nat) (ks:List Kp) (hn:1≤n) (hnd:(ks.map Kp.b).Nodup) (hri:ks.Pairwise fun x y=>x.p.n < y.p.n) (hlen:ks.length≤6000) (J Jx:List Kp→World→Prop) (W:World)
  (hJ:∀pre A B,J pre A→Below ↑A A B→J pre B) (hR:∀pre A,J pre A→RdR ks b rb g bl br fr tO pre A)
  (hY:∀pre x A,J pre A→pre ++ [x] <+:yK ks fr tO→YieldAt Fence.wide (n - 1) prog l #[↑(π x.b)] A fun e B=>(e=.returned (.bool true)∧J (pre ++ [x]) B)∨(e=.returned (.bool false)∧Jx (pre ++ [x]) B))
  (h0:J [] W):
  CallsIn Fence.wide n prog 160 #[.func (.yield l) #[] #[],↑(π bl),↑(π br)] W fun e W'=>(∃v,e=.returned v)∧((∃xs,xs=yK ks fr tO∧J xs W')∨(∃pre,pre <+:yK ks fr tO∧Jx pre W')):=by
 have R0:=hR _ _ h0;have l0:=R0.hl.cell (i:=0) rfl;have f0:=R0.hr.cell (i:=0) (v:=↑fr) rfl;have HP:=lh (BN b rb g fr ks W R0.rd hri hlen);have H0:=lh h0;have HJ:=lh hJ;have HR:=lh hR;have HY:=lh hY;have HNd:=lh hnd;have HRi:=lh hri;have HPl:=lh (GL ks fr);have HSt:=lh (BO hri fr tO);have HAb:=lh (fun j=>BM (n:=fr) (i:=j) hri);clear h0 hJ hR hY hnd hri R0;generalize plc ks fr=j0 at *;refine callsIn_of_wp func160 rfl trivial ?_ rfl;simp only [ntmps160,List.size_toArray,List.length_cons,List.length_nil,Nat.reduceAdd,Nat.reduceSub,Array.replicate_succ,Array.replicate_zero,List.push_toArray,List.append_toArray,List.nil_append,List.cons_append]
 gi_wp2_with (refine ⟨trivial,?_⟩;gi_at_call 161;refine (callsIn_wide.2 HP.out).mono ?_;rintro e w1 ⟨rfl,hb⟩)
 have H1:=lh (HJ.out _ _ _ H0.out hb);clear hb l0 f0 HP H0
 gi_loopw [4] (fun i wr=>∃j:Nat,j0≤j∧j≤ks.length∧i=.int .i64 (j:Int)∧J ((ks.take j).filter (inK fr tO)) wr) (fun i _=>ks.length - (intOf i).toNat)
 case atStart=>exact ⟨j0,Nat.le_refl _,HPl.out,rfl,by rw [HSt.out];exact H1.out⟩
 case round=>
  obtain ⟨j,hj0,hj,rfl,hJj⟩:=hrel;have R:=HR.out _ _ hJj;have HJj:=lh hJj;have l0:=R.hl.cell (i:=0) rfl;have r0:=R.rd.cell0;have HL:=lh (mY b rb g ks wr R.rd);by_cases hlt:j < ks.length
  ·have HA:=lh (wK b rb g j ks wr R.rd hlt)
   have HK:=lh (R.gone _ (rS hlt) (GN HNd.out hlt (inK fr tO)));have HBr:=lh R.hr;have HF:=lh (vK (inK fr tO) hlt default);have HPre:=lh (sZ (inK fr tO) ks (j + 1));have HOv:Hid (tO < (kAt ks j).p.n→(ks.take j).filter (inK fr tO)=yK ks fr tO):=lh (GO HRi.out hlt);have HGe:=lh (HAb.out j hj0 hlt);have ek:ks.getD j default=kAt ks j:=rfl;rw [ek] at HF;have hlt':(j:Int) < (ks.length:Int):=by omega
   clear ek R hJj H1 HNd HRi HPl HSt HAb;generalize kAt ks j=k at *
   gi_wp2_with (first
    | (refine ⟨trivial,?_⟩;gi_at_call 162;refine (callsIn_wide.2 HL.out).mono ?_;rintro e w' ⟨rfl,rfl⟩)
    | (refine ⟨trivial,?_⟩;gi_at_call 163;refine (callsIn_wide.2 HA.out).mono ?_;rintro e w2 ⟨rfl,hd⟩))
   have HD:=lh hd;have k0:=(fN (hd.blk HK.out)).1;have k7:=(fN (hd.blk HK.out)).2.2.2.2.2.2.2;have t1:=(hd.blk HBr.out).cell (i:=1) (v:=↑tO) rfl;have HJ2:=lh (HJ.out _ _ _ HJj.out (hd.below _));clear hd l0 r0 HL HA HJj HK HBr;by_cases hov:tO < k.p.n
   ·have d1:decide (tO < k.p.n)=true:=by simpa using hov
    refine wpIn_wide.2 ?_;go_quiet (fail)
    have HJ3:=lh (HJ.out _ _ _ HJ2.out (aB.below ⟨nq,rfl⟩ _))
    gi_wp2
    refine bodyPost_ret (results_none rfl _ _ _) rfl ?_;exact ⟨⟨_,rfl⟩,.inl ⟨_,rfl,by rw [← HOv.out hov];exact HJ3.out⟩⟩
   ·have d1:decide (tO < k.p.n)=false:=by simpa using hov
    have hov':k.p.n≤tO:=by omega
    cases hg:k.gone
    ·have HF2:Hid ((ks.take (j + 1)).filter (inK fr tO)=(ks.take j).filter (inK fr tO) ++ [k]):=lh (by rw [HF.out,if_pos (by have:=HGe.out;simp [inK,hg];omega)])
     rw [hg] at k7;have HK0:=lh k0;have HK7:=lh k7;have HT1:=lh t1;clear k0 k7 t1;have k0:w2.drew.cell? ⟨k.b,0,none⟩=some ↑k.p.n:=HK0.out;have k7:w2.drew.cell? ⟨k.b,7,none⟩=some (.bool false):=HK7.out;have t1:w2.drew.cell? ⟨br,1,none⟩=some ↑tO:=HT1.out;obtain ⟨fn,tmps,assign,body,hy,hRd⟩:=HY.out _ k w2.drew (HJ.out _ _ _ HJ2.out ((aB.drew w2).below _)) (by rw [← HF2.out];exact HPre.out);refine oC 17 (by kernel_rfl) (by kernel_rfl) ?_;simp only [List.take_succ_cons,List.take_zero,List.drop_succ_cons,List.drop_zero];repeat still_step
     refine wpStill_nil ?_
     gi_wp2
     refine hRd.mono ?_;rintro e W3 (⟨rfl,hJ3⟩ | ⟨rfl,hJx3⟩)
     ·have HJ3:=lh hJ3
      clear hJ3 hy hRd HY
      gi_wp2
      go_roundw
      case rel=>exact ⟨j + 1,by omega,by omega,by go_num,by rw [HF2.out];exact HJ3.out⟩
      case measure=>simp [intOf];omega
     ·have HJ3:=lh hJx3
      clear hJx3 hy hRd HY
      gi_wp2
      refine bodyPost_ret (results_none rfl _ _ _) rfl ?_;exact ⟨⟨_,rfl⟩,.inr ⟨_,by rw [← HF2.out];exact HPre.out,HJ3.out⟩⟩
    ·have HF2:Hid ((ks.take (j + 1)).filter (inK fr tO)=(ks.take j).filter (inK fr tO)):=lh (by rw [HF.out,if_neg (by simp [inK,hg]),List.append_nil])
     rw [hg] at k7;refine wpIn_wide.2 ?_;go_quiet (fail)
     have HJ3:=lh (HJ.out _ _ _ HJ2.out (aB.below ⟨nq,rfl⟩ _))
     gi_wp2
     go_roundw
     case rel=>exact ⟨j + 1,by omega,by omega,by go_num,by rw [HF2.out];exact HJ3.out⟩
     case measure=>simp [intOf];omega
  ·obtain rfl:j=ks.length:=by omega
   have HE:Hid ((ks.take ks.length).filter (inK fr tO)=yK ks fr tO):=lh (by rw [List.take_length];rfl)
   gi_wp2_with (refine ⟨trivial,?_⟩;gi_at_call 162;refine (callsIn_wide.2 HL.out).mono ?_;rintro e w' ⟨rfl,rfl⟩)
   go_end0
   exact ⟨⟨_,rfl⟩,.inl ⟨_,HE.out,HJj.out⟩⟩
theorem jA (n b rb g bl br fr tO:Nat) (ks:List Kp) (hn:1≤n) (hnd:(ks.map Kp.b).Nodup) (hri:ks.Pairwise fun x y=>x.p.n < y.p.n) (hlen:ks.length≤6000):
  RA n prog 160 #[↑(π bl),↑(π br)] (fun x:Kp=>#[↑(π x.b)]) (fun pre x=>pre ++ [x] <+:yK ks fr tO) (fun xs=>xs=yK ks fr tO) (fun pre=>pre <+:yK ks fr tO) (RdR ks b rb g bl br fr tO):=
 fun l J Jx W hJ _ hR hY h0=>GP n l b rb g bl br fr tO ks hn hnd hri hlen J Jx W hJ hR hY h0
def bw1 (w:World) (b fr tO:Nat):World:=(w.alloc (.cells #[↑(π b)] 97)).alloc (.cells #[↑fr,↑tO] 190)
def bfn (w:World):Value:=.func (.func 160) #[] #[↑(π w.heap.size),↑(π (w.heap.size + 1))]
theorem mK (b fr tO:Nat) (w:World):
  Calls prog 114 #[↑(π b),.agg #[↑fr,↑tO]] w fun e w'=>e=.returned (bfn w)∧w'=bw1 w b fr tO:=by
 go_enter func114,ntmps114;go_wp2;go_ret;exact ⟨rfl,rfl⟩
theorem rT (b:Nat) (w:World):
  Calls prog 166 #[↑(π b)] w fun e w'=>e=.returned (bfn w)∧w'=bw1 w b 0 18446744073709551615:=by
 have hb:=mK b 0 18446744073709551615 w;have HB:Hid (Calls prog 114 #[↑(π b),.agg #[↑ζ,.int .u64 18446744073709551615]] w fun e w'=>e=.returned (bfn w)∧w'=bw1 w b 0 18446744073709551615):=lh hb;clear hb;go_enter func166,ntmps166;go_wp2_with fail;refine (HB.out).mono ?_;rintro e w' ⟨rfl,rfl⟩;go_wp2;go_ret;exact ⟨rfl,rfl⟩
theorem fR (w:World) (b fr tO:Nat):Below ↑w w (bw1 w b fr tO):=((Below.refl _ _).alloc (Nat.le_refl _) _).alloc (by simp) _
theorem yL (w:World) (b fr tO:Nat):Blk (bw1 w b fr tO) w.heap.size 97 #[↑(π b)]:=(Blk.new _ _ _).alloc _
theorem yM (w:World) (b fr tO:Nat):Blk (bw1 w b fr tO) (w.heap.size + 1) 190 #[↑fr,↑tO]:=Blk.new1 _ _ _ _
theorem tX (w:World) (b fr tO:Nat):(bw1 w b fr tO).heap.size=w.heap.size + 2:=by simp [bw1]
end

section
open Go.RowKit
def tw1 (w:World) (b av:Nat):World:=(w.alloc (.cells #[↑(π b)] 97)).alloc (.cells #[↑(π av)] 202)
def tfn (w:World):Value:=.func (.func 159) #[] #[↑(π w.heap.size),↑(π (w.heap.size + 1))]
theorem p4 (b av:Nat) (w:World):
  Calls prog 112 #[↑(π b),↑(π av)] w fun e w'=>e=.returned (tfn w)∧w'=tw1 w b av:=by
 go_enter func112,ntmps112;go_wp2;go_ret;exact ⟨rfl,rfl⟩
theorem p5 (w:World) (b av:Nat):Below ↑w w (tw1 w b av):=((Below.refl _ _).alloc (Nat.le_refl _) _).alloc (by simp) _
theorem O5 (w:World) (b av:Nat):Blk (tw1 w b av) w.heap.size 97 #[↑(π b)]:=(Blk.new _ _ _).alloc _
theorem O6 (w:World) (b av:Nat):Blk (tw1 w b av) (w.heap.size + 1) 202 #[↑(π av)]:=Blk.new1 _ _ _ _
structure oD (w:World) (b rb g av:Nat) (x:Kp) (s:LS) (v:Value) (l:List Pk) (e:Ending) (w':World):Prop where
 e:e=.returned (.tuple #[])
 led:LAt w' b rb g (s.take [x.b])
 out:∃v',Blk w' av 67 #[v']∧PR w' v' (l ++ [x.p])∧(∀k,v'.ownBlock=some k→v.ownBlock=some k∨w.heap.size≤k)
 fr:Fr w w' (b :: x.b :: av :: v.ownBlock.toList)
theorem GQ {s:LS} {x:Kp} (h:LAt w b rb g s) (hs:s.ok) (hx:x∈s.ks) (k:Fr w w' (b :: x.b :: L)) (hL:∀y∈L,∃T cs,Blk w y T cs∧T≠208∧T≠254∧T≠177)
  (hb:Blk w' b 156 (cK rb (s.take [x.b]))) (hk:Blk w' x.b 208 (Kp.cells x.p true)):LAt w' b rb g (s.take [x.b]):=by
 have nL:∀{y T cs},Blk w y T cs→(T=208∨T=254∨T=177)→y ∉ L:=fun {y T cs} hy hT hm=>by
  obtain ⟨T',cs',h1,h2,h3,h4⟩:=hL y hm;refine hy.ty h1 ?_ rfl;rcases hT with rfl | rfl | rfl
  ·exact Ne.symm h2
  ·exact Ne.symm h3
  ·exact Ne.symm h4
 obtain ⟨c1,hc1⟩:=h.row.head;obtain ⟨c2,hc2⟩:=h.row.body;refine ⟨hb,?_,fun y hy=>?_⟩
 ·have e:aP (s.take [x.b]).ks=aP s.ks:=by
   have:=congrArg (List.map (· + 1)) (jM [x.b] s.ks);rw [List.map_map,List.map_map] at this;exact this
  rw [e];refine h.row.fr k ?_ ?_
  ·have a1:=hc1.ty h.head (by decide)
   have a2:=hc1.ty (h.kept x hx) (by decide);have a3:=nL hc1 (.inr (.inl rfl));simp [a1,a2,a3]
  ·have a1:=hc2.ty h.head (by decide)
   have a2:=hc2.ty (h.kept x hx) (by decide);have a3:=nL hc2 (.inr (.inr rfl));simp [a1,a2,a3]
 ·obtain ⟨z,hz,e1,e2,e3⟩:=jP hy
  by_cases c:z.b=x.b
  ·obtain rfl:z=x:=by
    obtain ⟨i,hi,ei⟩:=List.mem_iff_getElem.1 hz;obtain ⟨j,hj,ej⟩:=List.mem_iff_getElem.1 hx;have hn:=hs.nodup;have key:∀{p q:Nat} (hp:p < s.ks.length) (hq:q < s.ks.length),p < q→s.ks[p].b≠s.ks[q].b:=fun {p q} hp hq hpq=>by
     have:=List.pairwise_iff_getElem.1 hn p q (by rw [List.length_map];exact hp) (by rw [List.length_map];exact hq) hpq;rwa [List.getElem_map,List.getElem_map] at this
    rcases Nat.lt_trichotomy i j with d | d | d
    ·exact absurd (by rw [ei,ej];exact c) (key hi hj d)
    ·subst d;rw [← ei,← ej]
    ·exact absurd (by rw [ei,ej];exact c.symm) (key hj hi d)
   rw [← e1,← e2,e3];have:(z.gone || decide (z.b∈[z.b]))=true:=by simp
   rw [this];exact hk
  ·rw [← e1,← e2,e3]
   have:(z.gone || decide (z.b∈[x.b]))=z.gone:=by simp [c]
   rw [this];have hzk:=h.kept z hz;refine hzk.fr k ?_;have a1:=hzk.ty h.head (by decide);have a3:=nL hzk (.inl rfl);simp [a1,a3,c]
theorem GR {w4 w5:World} {av g0 cv:Nat} {pv0:Option Addr} {x:Kp} {s s':LS} {l:List Pk} (es:s'=s.take [x.b])
  (HTL:∀w' L,Fr w w' (b :: x.b :: L)→(∀y∈L,∃T cs,Blk w y T cs∧T≠208∧T≠254∧T≠177)→Blk w' b 156 (cK rb s')→Blk w' x.b 208 (Kp.cells x.p true)→LAt w' b rb g s')
  (F4:Fr w w4 [b,x.b]) (B4:Blk w4 b 156 (cK rb s')) (K4:Blk w4 x.b 208 (Kp.cells x.p true)) (A4:Blk w4 av 67 #[.slice pv0 l.length cv]) (HA:Blk w av 67 #[.slice pv0 l.length cv])
  (HV:PR w (.slice pv0 l.length cv) l) (ane1:av≠x.b) (ane2:av≠b) (HVb:∀k,(Value.slice pv0 l.length cv).ownBlock=some k→k≠b∧k≠x.b∧k≠av∧k < w.heap.size)
  (HGr:(w4.alloc o).drew.grownBy w5 (Value.slice pv0 l.length cv).ownBlock) (HOn:w5.ownsRow 0 73 7 (.slice (some ⟨g0,0,none⟩) (l.length + 1) cap) (l.length + 1) (pcs l ++ pcs [x.p])) (HAt:(Value.slice pv0 l.length cv).ownBlock=some g0∨g0=w4.heap.size + 1):
  oD w b rb g av x s (.slice pv0 l.length cv) l (.returned (.tuple #[])) (w5.setCell ⟨av,0,none⟩ (.slice (some ⟨g0,0,none⟩) (l.length + 1) cap)):=by
 subst es;have hs4:=F4.size;have g5:Fr (w4.alloc o).drew w5 (Value.slice pv0 l.length cv).ownBlock.toList:=⟨HGr.os,HGr.tape,HGr.output,HGr.size,fun k hk hl=>HGr.block k hk (fun e=>hl (by rw [← e];simp))⟩;have f5:Fr w w5 (b :: x.b :: av :: (Value.slice pv0 l.length cv).ownBlock.toList):=
  (((F4.alloc o).drawn (aB.drew _)).mono (l':=b :: x.b :: av :: (Value.slice pv0 l.length cv).ownBlock.toList) (fun y hy=>.inl (by simp at hy;rcases hy with rfl | rfl <;> simp))).trans g5 (fun y hy=>.inl (by simp only [List.mem_cons];exact .inr (.inr (.inr hy))))
 have f6:=f5.set (c:=av) (.inl (by simp)) 0 (.slice (some ⟨g0,0,none⟩) (l.length + 1) cap);have nb:some b≠(Value.slice pv0 l.length cv).ownBlock:=fun e=>(HVb b e.symm).1 rfl;have nk:some x.b≠(Value.slice pv0 l.length cv).ownBlock:=fun e=>(HVb x.b e.symm).2.1 rfl;have na:some av≠(Value.slice pv0 l.length cv).ownBlock:=fun e=>(HVb av e.symm).2.2.1 rfl;have b6:=(((B4.alloc o).drew).grown HGr nb).set_other 0 (.slice (some ⟨g0,0,none⟩) (l.length + 1) cap) (Ne.symm ane2);have k6:=(((K4.alloc o).drew).grown HGr nk).set_other 0 (.slice (some ⟨g0,0,none⟩) (l.length + 1) cap) (Ne.symm ane1);have a6:=(((A4.alloc o).drew).grown HGr na).set 0 (.slice (some ⟨g0,0,none⟩) (l.length + 1) cap);have hga:g0≠av:=by
  rcases HAt with e | e
  ·exact (HVb g0 e).2.2.1
  ·have:=HA.lt;omega
 have hv:PR w5 (.slice (some ⟨g0,0,none⟩) (l.length + 1) cap) (l ++ [x.p]):=PR.app rfl HOn;refine ⟨rfl,HTL _ (av :: (Value.slice pv0 l.length cv).ownBlock.toList) f6 ?_ b6 k6,⟨_,a6,hv.same fun k cs e _=>Below.heap_setCell _ _ _ _ ?_,fun k e=>?_⟩,f6⟩
 ·intro y hy
  rcases List.mem_cons.1 hy with rfl | hy
  ·exact ⟨_,_,HA,by decide,by decide,by decide⟩
  ·have:(Value.slice pv0 l.length cv).ownBlock=some y:=by
    cases h:(Value.slice pv0 l.length cv).ownBlock with
    | none=>rw [h] at hy;cases hy
    | some z=>rw [h] at hy;simp at hy;rw [hy]
   obtain ⟨cs,hc⟩:=HV.blk this;exact ⟨_,cs,hc,by decide,by decide,by decide⟩
 ·simp [Value.ownBlock] at e;show k≠av;rw [← e];exact hga
 ·simp [Value.ownBlock] at e
  subst e;rcases HAt with h | h
  ·exact .inl h
  ·right;omega
theorem jC (b rb g bl bt av:Nat) (x:Kp) (s:LS) (v:Value) (l:List Pk) (w:World) (h:LAt w b rb g s) (hs:s.ok) (hx:x∈s.ks) (hg:x.gone=false)
  (hl:Blk w bl 97 #[↑(π b)]) (ht:Blk w bt 202 #[↑(π av)]) (ha:Blk w av 67 #[v]) (hv:PR w v l) (hll:l.length≤7000):
  Calls prog 159 #[↑(π x.b),↑(π bl),↑(π bt)] w (oD w b rb g av x s v l):=by
 obtain ⟨e1,e2⟩:=C5 hs hx hg;obtain ⟨br,hbr,hdiv,hsub⟩:=AP (tot (s.take [x.b]).ks) x.p.size (hs.pk x hx).lt;rw [e2] at hdiv hsub;have HK:=lh (h.kept x hx);rw [hg] at HK;have HHd:=lh h.head;have hbx:b≠x.b:=HHd.out.ty HK.out (by decide);have l0:=hl.cell (i:=0) rfl;have lne1:bl≠x.b:=hl.ty HK.out (by decide);have lne2:bl≠b:=hl.ty HHd.out (by decide);have h1:=HHd.out.cell (i:=1) (v:=.int .i64 ((aW s.ks).length:Int)) rfl;have h2:=HHd.out.cell (i:=2) (v:=↑(tot s.ks / M64:Nat)) rfl;have h3:=HHd.out.cell (i:=3) (v:=↑(tot s.ks % M64:Nat)) rfl;have f1:=HHd.out.free 1;have f2:=HHd.out.free 2;have f3:=HHd.out.free 3;have k1:=(fN HK.out).2.1;have k7:=(fN HK.out).2.2.2.2.2.2.2;have g7:=HK.out.free 7;have hlo:=LS.out_le hs;have HH:=lh h;have HS:=lh hs;have HX:=lh hx;have HL:=lh hl;have HT:=lh ht;have HA:=lh ha;have HV:=lh hv;have E1:=lh e1;have E2:=lh e2;have HDiv:=lh hdiv;clear h hs hx hg hl ht ha hv e1 e2 hdiv;have hbx':x.b≠b:=Ne.symm hbx;have ho1:(aW s.ks).length=(aW (s.take [x.b]).ks).length + 1:=E1.out.symm;have hhi:tot s.ks / M64=tot (s.take [x.b]).ks / M64 + br:=HDiv.out;have hhl:tot s.ks / M64≤6000:=by
  have:=LS.tot_le HS.out;have:=Nat.div_le_div_right (c:=M64) this;rwa [Nat.mul_div_cancel _ eZ] at this
 rw [ho1] at h1 hlo;rw [hhi] at h2 hhl;have HC3:Hid (((cK rb s).setIfInBounds 1 (.int .i64 ((aW (s.take [x.b]).ks).length:Int)))=#[↑(π rb),.int .i64 ((aW (s.take [x.b]).ks).length:Int),↑(tot (s.take [x.b]).ks / M64 + br:Nat),↑(tot s.ks % M64:Nat),.bool s.mixed,↑s.reorder,↑s.next,↑s.top,.bool s.topped]):=lh (by rw [← hhi];rfl);have HLC:Hid ((((cK rb s).setIfInBounds 1 (.int .i64 ((aW (s.take [x.b]).ks).length:Int))).setIfInBounds 3 ↑(tot (s.take [x.b]).ks % M64:Nat)).setIfInBounds 2 ↑(tot (s.take [x.b]).ks / M64:Nat)=cK rb (s.take [x.b])):=lh (by
  simp [cK];exact ⟨rfl,rfl,rfl,rfl,rfl⟩)
 have HTL:Hid (∀w' L,Fr w w' (b :: x.b :: L)→(∀y∈L,∃T cs,Blk w y T cs∧T≠208∧T≠254∧T≠177)→Blk w' b 156 (cK rb (s.take [x.b]))→Blk w' x.b 208 (Kp.cells x.p true)→LAt w' b rb g (s.take [x.b])):=
  lh (fun w' L k hL hb hk=>GQ HH.out HS.out HX.out k hL hb hk)
 clear ho1 hhi HH HS HX E1 E2 HDiv;generalize es:s.take [x.b]=s' at hlo h1 h2 hhl HLC HTL hsub HC3;have ES:=lh es.symm;clear es;generalize (aW s.ks).length=o0 at *;generalize tot s.ks / M64=hi0 at *;generalize tot s.ks % M64=lo at *;generalize (aW s'.ks).length=o at *;generalize tot s'.ks / M64=hi at *;generalize tot s'.ks % M64=lo' at *;go_enter func159,ntmps159;go_wp2_with fail;have hsz:w.heap.size≤((w.setCell ⟨x.b,7,none⟩ (.bool true)).setCell ⟨b,1,none⟩ (.int .i64 (o:Int))).heap.size:=by simp [World.setCell]
 have B2:=lh ((HHd.out.set_other 7 (.bool true) hbx).set 1 (.int .i64 (o:Int)));have K2:=lh ((HK.out.set 7 (.bool true)).set_other (c:=b) 1 (.int .i64 (o:Int)) hbx');have F2:=lh (((Fr.refl w (b :: x.b :: [])).set (c:=x.b) (.inl (by simp)) 7 (.bool true)).set (c:=b) (.inl (by simp)) 1 (.int .i64 (o:Int)));have L2:=lh ((HL.out.set_other 7 (.bool true) lne1).set_other 1 (.int .i64 (o:Int)) lne2);generalize ((w.setCell ⟨x.b,7,none⟩ (.bool true)).setCell ⟨b,1,none⟩ (.int .i64 (o:Int)))=w2 at *;clear l0 h1 h2 h3 f1 f2 f3 k1 k7 g7;have l0:=L2.out.drew.cell (i:=0) (v:=↑(π b)) rfl;have h3:w2.drew.cell? ⟨b,3,none⟩=some ↑lo:=B2.out.drew.cell (i:=3) (by rw [HC3.out];rfl);have f3:=B2.out.drew.free 3;have k1:w2.drew.cell? ⟨x.b,1,none⟩=some ↑x.p.size:=K2.out.drew.cell (i:=1) rfl;go_region
 have lne1':bt≠x.b:=HT.out.ty HK.out (by decide);have lne2':bt≠b:=HT.out.ty HHd.out (by decide);have ane1:av≠x.b:=HA.out.ty HK.out (by decide);have ane2:av≠b:=HA.out.ty HHd.out (by decide);have B3:=lh ((B2.out.set 3 ↑lo').drew);have K3:=lh ((K2.out.set_other 3 ↑lo' hbx').drew);have F3:=lh ((F2.out.set (c:=b) (.inl (by simp)) 3 ↑lo').drawn (aB.drew _));clear l0 h3 f3 k1;generalize (w2.setCell ⟨b,3,none⟩ ↑lo').drew=w3 at *;have l0:=(HL.out.fr F3.out (by simp [lne1,lne2])).cell (i:=0) (v:=↑(π b)) rfl;have h2:w3.cell? ⟨b,2,none⟩=some ↑(hi + br:Nat):=B3.out.cell (i:=2) (by rw [HC3.out];rfl);have f2:=B3.out.free 2;go_wp2_with fail;have B4:=lh (B3.out.set 2 ↑hi);rw [HLC.out] at B4;have K4:=lh (K3.out.set_other 2 ↑hi hbx');have F4:=lh (F3.out.set (c:=b) (.inl (by simp)) 2 ↑hi);clear l0 h2 f2 B2 K2 F2 B3 K3 F3 L2;generalize (w3.setCell ⟨b,2,none⟩ ↑hi)=w4 at *;obtain ⟨pv0,cv,rfl⟩:=HV.out.form;obtain ⟨i0,hi0',hz0,hz1,hz2⟩:=info_parts yA;have HI:=lh hi0';have HZ0:=lh hz0;have HZ1:=lh hz1;have HZ2:=lh hz2;clear hi0' hz0 hz1 hz2;have hvb:∀k,(Value.slice pv0 l.length cv).ownBlock=some k→k≠b∧k≠x.b∧k≠av∧k≠bt∧k < w.heap.size:=fun k e=>by
  obtain ⟨cs,hc⟩:=HV.out.blk e;exact ⟨hc.ty HHd.out (by decide),hc.ty HK.out (by decide),hc.ty HA.out (by decide),hc.ty HT.out (by decide),hc.lt⟩
 have V4:=lh (HV.out.fr F4.out (fun k e=>by obtain ⟨a1,a2,_⟩:=hvb k e;simp [a1,a2]));have A4:=lh (HA.out.fr F4.out (by simp [ane1,ane2]));have T4:=lh (HT.out.fr F4.out (by simp [lne1',lne2']));have HVb:=lh hvb;clear hvb;have hs4:↑w≤w4.heap.size:=F4.out.size;have t0:=T4.out.drew.cell (i:=0) (v:=↑(π av)) rfl;have a0:=A4.out.drew.cell (i:=0) (v:=.slice pv0 l.length cv) rfl;have fa:=A4.out.drew.free 0;obtain ⟨q0,q1,q2,q3,q4,q5,q6,_⟩:=fN (p:=x.p) (gn:=true) (show Blk w4.drew x.b 208 (Kp.cells x.p true) from K4.out);have HOw:Hid ((w4.alloc (.cells #[↑x.p.n,↑x.p.size,↑x.p.sent,↑x.p.first,↑x.p.deliv,↑x.p.at_,.bool x.p.lim] 73)).drew.ownsRow 0 73 7 (.slice pv0 l.length cv) l.length (pcs l)):=
  lh ((V4.out.keep ((Below.refl _ _).alloc (Nat.le_refl _) _)).drawn (aB.drew _))
 have HNw:Hid (Blk (w4.alloc (.cells #[↑x.p.n,↑x.p.size,↑x.p.sent,↑x.p.first,↑x.p.deliv,↑x.p.at_,.bool x.p.lim] 73)).drew w4.heap.size 73 #[↑x.p.n,↑x.p.size,↑x.p.sent,↑x.p.first,↑x.p.deliv,↑x.p.at_,.bool x.p.lim]):=lh (Blk.new _ _ _).drew;have HOne:Hid (∀u∈[↑x.p.n,↑x.p.size,↑x.p.sent,↑x.p.first,↑x.p.deliv,↑x.p.at_,Value.bool x.p.lim],u.oneCell'=true):=lh (Itm.one x.p);have t1:(w4.alloc (.cells #[↑x.p.n,↑x.p.size,↑x.p.sent,↑x.p.first,↑x.p.deliv,↑x.p.at_,.bool x.p.lim] 73)).cell? ⟨bt,0,none⟩=some ↑(π av):=aQ (w:=w4) t0 _;have a1:(w4.alloc (.cells #[↑x.p.n,↑x.p.size,↑x.p.sent,↑x.p.first,↑x.p.deliv,↑x.p.at_,.bool x.p.lim] 73)).cell? ⟨av,0,none⟩=some (.slice pv0 l.length cv):=aQ (w:=w4) a0 _;have HT1:=lh t1;have HA1:=lh a1;have HFa:Hid ((w4.alloc (.cells #[↑x.p.n,↑x.p.size,↑x.p.sent,↑x.p.first,↑x.p.deliv,↑x.p.at_,.bool x.p.lim] 73)).frozen? ⟨av,0,none⟩=false):=lh ((A4.out.alloc _).free 0);have HNt:Hid (some bt≠(Value.slice pv0 l.length cv).ownBlock):=lh (fun e=>(HVb.out bt e.symm).2.2.2.1 rfl);have HNa:Hid (some av≠(Value.slice pv0 l.length cv).ownBlock):=lh (fun e=>(HVb.out av e.symm).2.2.1 rfl);go_region_law ((refine step_append_lies _ (by rfl) _ _ _ (by rfl) 0 73 i0 (.agg #[↑ζ,↑ζ,↑ζ,↑ζ,↑ζ,↑ζ,.bool false]) 7 56 underlying67 HI.out HZ0.out HZ1.out HZ2.out rfl (by decide) _ l.length (pcs l) (by rfl) HOw.out ⟨w4.heap.size,0,none⟩ 1 1 [↑x.p.n,↑x.p.size,↑x.p.sent,↑x.p.first,↑x.p.deliv,↑x.p.at_,.bool x.p.lim] (by rfl) (by rfl) (World.news_of_block HNw.out) HOne.out (by decide) (by unfold maxLen;omega) (by omega) (Nat.zero_le _) (w4.heap.size + 1) (by simp) ?_;intro g0 cap w5 hown hgrow hat hltg;have HOn:=lh hown;have HGr:=lh hgrow;have HAt:=lh hat;clear hown hgrow hat;have u0:=(HGr.out.cell_far ⟨bt,0,none⟩ (World.block_lt_of_cell? _ _ HT1.out) HNt.out).trans HT1.out;have u1:=(HGr.out.cell_far ⟨av,0,none⟩ (World.block_lt_of_cell? _ _ HA1.out) HNa.out).trans HA1.out;have u2:=(HGr.out.frozen_far ⟨av,0,none⟩ (World.block_lt_of_cell? _ _ HA1.out) HNa.out).trans HFa.out))
 all_goals
  have PE:=GR ES.out HTL.out F4.out B4.out K4.out A4.out HA.out HV.out ane1 ane2 (fun k e=>by obtain ⟨a1,a2,a3,_,a5⟩:=HVb.out k e;exact ⟨a1,a2,a3,a5⟩) HGr.out HOn.out HAt.out;go_end0
  exact PE
end

section
open Go.RowKit Pl
def passB (since time now:Nat):Bool:=decide (addS since time≤now)
theorem oE (since time now:Nat) (h1:since≤↑ω) (h2:time≤↑ω) (w:World):
  Calls prog 180 #[↑since,↑time,↑now] w fun e w'=>e=.returned (.bool (passB since time now))∧Below ↑w w w':=by
 have HA:=lh (gX w w.heap.size 2 since time rfl h1 h2);have hp:passB since time now=decide (addS since time≤now):=rfl;rw [hp];clear hp h1 h2;generalize addS since time=z at *;go_enter func180,ntmps180;go_wp2_with fail;refine (HA.out).mono ?_;rintro e w' ⟨rfl,rfl⟩;go_wp2_with fail;go_ret;exact ⟨rfl,(Below.refl _ _).alloc (Nat.le_refl _) _⟩
theorem MT (w:World) (a b:Nat):Row (w.alloc (.cells #[↑a,↑b] 22)) w.heap.size 0 [a,b]:=by
 intro i hi;have hb:=Blk.new w 22 #[↑a,↑b]
 match i,hi with
 | 0,_=>exact hb.cell (i:=0) rfl
 | 1,_=>exact hb.cell (i:=1) rfl
theorem MU {x0:Nat} (a b:Nat) (ha:a≤↑ω) (hb:b≤↑ω) (w:World) (hr:Row w x0 0 [a,b]):
  Calls prog 60 #[.slice (some ⟨x0,0,none⟩) 2 2] w fun e w'=>e=.returned ↑(addS a b:Nat)∧w=w':=by
 have:=jK x0 0 2 [a,b] w (by simp) (fun z hz=>by simp at hz;rcases hz with rfl | rfl <;> assumption) hr;rw [sumS_two] at this;exact this
def kT (s:LS) (p:Pk):Bool:=s.topped && decide (addS p.n s.reorder≤s.top)
theorem o8 (b rb g:Nat) (x:Kp) (s:LS) (w:World) (h:LAt w b rb g s) (hs:s.ok) (gn:Bool) (hx:Blk w x.b 208 (Kp.cells x.p gn)) (hp:x.p.ok):
  Calls prog 179 #[↑(π b),↑(π x.b)] w fun e w'=>e=.returned (.bool (kT s x.p))∧Below ↑w w w':=by
 have h5:=h.head.cell (i:=5) (v:=↑s.reorder) rfl;have h7:=h.head.cell (i:=7) (v:=↑s.top) rfl;have h8:=h.head.cell (i:=8) (v:=.bool s.topped) rfl;have k0:=(fN hx).1;have hn:x.p.n≤18446744073709551615:=by have:=hp.n;omega
 have hr:=hs.reorder;have HE:Hid (kT s x.p=(s.topped && decide (addS x.p.n s.reorder≤s.top))):=lh rfl;have HAdd:=lh (MU x.p.n s.reorder hn hr (w.alloc (.cells #[↑x.p.n,↑s.reorder] 22)).drew (MT w x.p.n s.reorder));clear h hs hx hp hn hr;generalize x.p.n=n at *;generalize s.reorder=r at *;generalize s.top=t at *;generalize kT s x.p=ov at *;generalize addS n r=z at *;cases ht:s.topped
 ·rw [ht] at h8 HE
  go_enter func179,ntmps179;go_wp2_with fail;go_quiet (fail)
  go_wp2_with fail;go_ret;exact ⟨by rw [HE.out];rfl,aB.below ⟨nq,rfl⟩ _⟩
 ·rw [ht] at h8 HE
  have H5:w.drew.cell? ⟨b,5,none⟩=some ↑r:=h5;have H7:w.drew.cell? ⟨b,7,none⟩=some ↑t:=h7;have H8:w.drew.cell? ⟨b,8,none⟩=some (.bool true):=h8;have K0:w.drew.cell? ⟨x.b,0,none⟩=some ↑n:=k0;have G5:=lh h5;have G7:=lh h7;have G8:=lh h8;have J0:=lh k0;clear h5 h7 h8 k0;go_enter func179,ntmps179;go_wp2_with fail;go_region_held3 (fun w'=>w'.cell? ⟨b,5,none⟩=some ↑r∧w'.cell? ⟨b,7,none⟩=some ↑t∧w'.cell? ⟨b,8,none⟩=some (.bool true)∧w'.cell? ⟨x.b,0,none⟩=some ↑n)
   (first | exact ⟨H5,H7,H8,K0⟩ | exact ⟨aQ (w:=w) G5.out _,aQ (w:=w) G7.out _,aQ (w:=w) G8.out _,aQ (w:=w) J0.out _⟩)
   (first | (go_at_call 60;refine (HAdd.out).mono ?_;rintro e w' ⟨rfl,rfl⟩))
  go_wp2_with fail;go_ret;exact ⟨by rw [HE.out];rfl,(((Below.refl w.heap.size w).alloc (Nat.le_refl _) _).trans ((aB.drew _).below _))⟩
end

section
open Go.RowKit Go.Shelf
attribute [local go_sem] Oper.semAt_some
theorem eV {row:Option Nat} (hg:W.grownBy W' row) (hr:∀r,row=some r→∃o:Obj,W.heap[r]? =some o∧o.isCells=false):∀x T cs,Blk W x T cs→W'.heap[x]? =W.heap[x]?:=fun x T cs hx=>
 hg.block x hx.lt (fun e=>by
  obtain ⟨o,ho,hc⟩:=hr x e.symm;unfold Blk at hx;rw [hx] at ho;cases ho;cases hc)
theorem b8 (h:Fr W W' L) (hL:∀x∈L,↑W≤x∨∃T cs,Blk W x T cs):KeepsFrom B W W':=⟨h.size,fun k o _ hk ho=>by
 have hlt:=(Array.getElem?_eq_some_iff.1 hk).1;refine (h.block k hlt (fun hm=>?_)).trans hk;rcases hL k hm with c | ⟨T,cs,hb⟩
 ·omega
 ·unfold Blk at hb
  rw [hb] at hk;cases hk;cases ho⟩
def dD (ks:List Kp) (b rb g bl br:Nat):List Nat:=bl :: br :: b :: rb :: g :: ks.map Kp.b
theorem RdR.keepX {ks:List Kp} {fr:Nat} {pre:List Kp} (h:RdR ks b rb g bl br fr tO pre W) (k:∀x T cs,x∈dD ks b rb g bl br→Blk W x T cs→W'.heap[x]? =W.heap[x]?):RdR ks b rb g bl br fr tO pre W':=by
 have mv:∀{x T cs},x∈dD ks b rb g bl br→Blk W x T cs→Blk W' x T cs:=fun {x T cs} hx hb=>by unfold Blk;rw [k x T cs hx hb];exact hb
 have mk:∀x∈ks,x.b∈dD ks b rb g bl br:=fun x hx=>by unfold dD;exact List.mem_cons_of_mem _ (List.mem_cons_of_mem _ (List.mem_cons_of_mem _ (List.mem_cons_of_mem _ (List.mem_cons_of_mem _ (List.mem_map_of_mem hx)))))
 obtain ⟨cs,h1,h2⟩:=h.rd.head;refine ⟨mv (by simp [dD]) h.hl,mv (by simp [dD]) h.hr,⟨⟨cs,mv (by simp [dD]) h1,h2⟩,h.rd.row.blk2 fun x T cs hx hb=>k x T cs (by rcases hx with rfl | rfl <;> simp [dD]) hb,fun x hx=>?_⟩,fun x hx hp=>mv (mk x hx) (h.gone x hx hp)⟩;obtain ⟨gn,hg⟩:=h.rd.kept x hx;exact ⟨gn,mv (mk x hx) hg⟩
theorem RdR.below {ks:List Kp} {fr:Nat} {pre:List Kp} (h:RdR ks b rb g bl br fr tO pre W) (k:Below ↑W W W'):RdR ks b rb g bl br fr tO pre W':=h.keepX fun x T cs _ hb=>k.block x hb.lt
theorem RdR.fr {ks:List Kp} {b rb g bl br fr tO:Nat} {pre:List Kp} {W W':World} {L:List Nat} (h:RdR ks b rb g bl br fr tO pre W) (k:Fr W W' L) (hd:∀x∈dD ks b rb g bl br,x ∉ L):RdR ks b rb g bl br fr tO pre W':=h.keepX fun x T cs hx hb=>k.block x hb.lt (hd x hx)
theorem RdR.more {ks:List Kp} {fr:Nat} {pre:List Kp} (h:RdR ks b rb g bl br fr tO pre W) (x:Kp):RdR ks b rb g bl br fr tO (pre ++ [x]) W:=⟨h.hl,h.hr,h.rd,fun k hk hp=>h.gone k hk (fun hm=>hp (by rw [List.map_append];exact List.mem_append_left _ hm))⟩
theorem RdR.lt {ks:List Kp} {b rb g bl br fr tO:Nat} {pre:List Kp} {W:World} (h:RdR ks b rb g bl br fr tO pre W):∀x∈dD ks b rb g bl br,x < W.heap.size:=by
 intro x hx;simp only [dD,List.mem_cons,List.mem_map] at hx;obtain ⟨cs,h1,_⟩:=h.rd.head;rcases hx with rfl | rfl | rfl | rfl | rfl | ⟨k,hk,rfl⟩
 ·exact h.hl.lt
 ·exact h.hr.lt
 ·exact h1.lt
 ·exact h.rd.row.lt.1
 ·exact h.rd.row.lt.2
 ·obtain ⟨gn,hg⟩:=h.rd.kept k hk;exact hg.lt
theorem LAt.rdr {fr:Nat} {s:LS} (h:LAt w b rb g s) (hl:Blk w bl 97 #[↑(π b)]) (hr:Blk w br 190 #[↑fr,↑tO]):RdR s.ks b rb g bl br fr tO [] w:=
 ⟨hl,hr,h.rd,fun k hk _=>h.kept k hk⟩
theorem GS:(prog.info? 177).map (fun i=>(i.zero,i.size,i.bytes))=some (some (.pointer none),1,8):=by kernel_rfl
def QR (w:World) (v:Value) (l:List Nat):Prop:=w.ownsRow 0 177 1 v l.length (l.map pv)
theorem QR.nil (w:World):QR w (.slice none 0 0) []:=World.ownsRow_nil w 0 _ 1
theorem QR.same (h:QR w v l) (hk:∀g cs,v.ownBlock=some g→Blk w g 177 cs→w'.heap[g]? =w.heap[g]?):QR w' v l:=by
 refine ⟨h.1,?_⟩;rcases h.2 with c | ⟨g,cap,cur,e,hb,hg,k⟩
 ·exact .inl c
 ·exact .inr ⟨g,cap,cur,e,hb,by rw [hk g cur (by rw [e];rfl) hg];exact hg,k⟩
theorem QR.form (h:QR w v l):∃p c,v=.slice p l.length c:=by
 rcases h.2 with ⟨e,k⟩ | ⟨g,cap,cur,e,_⟩
 ·exact ⟨none,0,by rw [e,k]⟩
 ·exact ⟨_,cap,e⟩
theorem QR.blk (h:QR w v l) (e:v.ownBlock=some g):∃cs,Blk w g 177 cs:=by
 rcases h.2 with ⟨rfl,_⟩ | ⟨g',cap,cur,rfl,_,hg,_⟩
 ·cases e
 ·simp [Value.ownBlock] at e;subst e;exact ⟨_,hg⟩
theorem QR.nums {p:Option Addr} (h:QR w (.slice p n cap) l):jY w p l:=by
 intro hp;rcases h.2 with ⟨e,k⟩ | ⟨g,c,cur,e,_,hb,_,_,h3,h4⟩
 ·omega
 ·injection e with e1 e2 e3
  subst e1;refine ⟨g,0,rfl,Blk.lt hb,fun i hi=>?_⟩;rw [Nat.zero_add];refine Blk.cell hb ?_;have e':(l.map pv)[i]? =some (pv (l.getD i 0)):=by simp [List.getD_eq_getElem?_getD,hi]
  rw [← h4,List.getElem?_take_of_lt (by omega)] at e';simpa using e'
structure AsI (ks:List Kp) (b rb g bl br fr tO:Nat) (w:World) (pre:List Kp) (W:World):Prop where
 rd:RdR ks b rb g bl br fr tO pre W
 box:∃v,Blk W w.heap.size 252 #[v]∧W.ownsRow w.heap.size 177 1 v (aP pre).length ((aP pre).map pv)
theorem gV (h:w.ownsRow B T k v n xs) (hk:∀g cs,v.ownBlock=some g→B≤g→Blk w g T cs→w'.heap[g]? =w.heap[g]?):w'.ownsRow B T k v n xs:=by
 refine ⟨h.1,?_⟩;rcases h.2 with c | ⟨g,cap,cur,e,hb,hg,k⟩
 ·exact .inl c
 ·exact .inr ⟨g,cap,cur,e,hb,by rw [hk g cur (by rw [e];rfl) hb hg];exact hg,k⟩
theorem l5 (h:w.ownsRow B T k v n xs) (e:v.ownBlock=some g):B≤g∧∃cs,Blk w g T cs:=by
 rcases h.2 with ⟨rfl,_⟩ | ⟨g',cap,cur,rfl,hb,hg,_⟩
 ·cases e
 ·simp [Value.ownBlock] at e;subst e;exact ⟨hb,_,hg⟩
theorem GT (h:w.ownsRow B T k v n xs):w.ownsRow 0 T k v n xs:=by
 refine ⟨h.1,?_⟩;rcases h.2 with c | ⟨g,cap,cur,e,hb,r⟩
 ·exact .inl c
 ·exact .inr ⟨g,cap,cur,e,Nat.zero_le _,r⟩
theorem AsI.keepX {ks:List Kp} {b rb g bl br fr tO:Nat} {w:World} {pre:List Kp} {W W':World} (h:AsI ks b rb g bl br fr tO w pre W) (k:∀x T cs,Blk W x T cs→W'.heap[x]? =W.heap[x]?):AsI ks b rb g bl br fr tO w pre W':=by
 obtain ⟨v,h1,h2⟩:=h.box;exact ⟨h.rd.keepX fun x T cs _ hb=>k x T cs hb,v,by unfold Blk;rw [k _ _ _ h1];exact h1,gV h2 fun g cs _ _ hb=>k g _ cs hb⟩
theorem yN (ks:List Kp) (b rb g bl br fr tO:Nat) (w:World) (B:Nat) (hB:↑w≤B):OwnFrom B (fun pre W=>AsI ks b rb g bl br fr tO w pre W∧Below ↑w w W):=
 fun pre X Y row hs hg hr=>⟨hs.1.keepX (eV hg (fun r e=>(hr r e).2)),hs.2.grown hg hs.2.size (fun k e=>Nat.le_trans hB (hr k e).1)⟩
theorem GU {ks:List Kp} {fr:Nat} {pre:List Kp} {x:Kp} (hlt:∀y∈dD ks b rb g bl br,y < w.heap.size) (h:AsI ks b rb g bl br fr tO w pre W) (hB:Below ↑w w W)
  (hb:Blk W w.heap.size 252 #[v]) (hv:W.ownsRow w.heap.size 177 1 v (aP pre).length ((aP pre).map pv)) (hn:n=(aP pre).length + 1)
  (hown:w1.ownsRow w.heap.size 177 1 (.slice (some ⟨g',0,none⟩) n cap) ((aP pre).length + 1) ((aP pre).map pv ++ [.pointer (some ⟨x.b,0,none⟩)])) (hg:(W.alloc o).grownBy w1 v.ownBlock) (B:Nat):
  KeepsFrom B W (w1.setCell ⟨w.heap.size,0,none⟩ (.slice (some ⟨g',0,none⟩) n cap))∧AsI ks b rb g bl br fr tO w (pre ++ [x]) (w1.setCell ⟨w.heap.size,0,none⟩ (.slice (some ⟨g',0,none⟩) n cap))∧Below ↑w w (w1.setCell ⟨w.heap.size,0,none⟩ (.slice (some ⟨g',0,none⟩) n cap)):=by
 subst hn;have f1:Fr W w1 v.ownBlock.toList:=((Fr.refl W v.ownBlock.toList).alloc o).trans (l':=v.ownBlock.toList) ⟨hg.os,hg.tape,hg.output,hg.size,fun k hk hl=>hg.block k hk (fun e=>hl (by rw [← e];simp))⟩ (fun y hy=>.inl hy);have vb:∀k∈v.ownBlock.toList,↑w≤k∧k≠w.heap.size∧∃cs,Blk W k 177 cs:=fun k hk=>by
  have e:v.ownBlock=some k:=by
   cases h:v.ownBlock with
   | none=>rw [h] at hk;cases hk
   | some z=>rw [h] at hk;simp at hk;rw [hk]
  obtain ⟨h1,cs,h2⟩:=l5 hv e;exact ⟨h1,h2.ty hb (by decide),cs,h2⟩
 have f2:Fr W (w1.setCell ⟨w.heap.size,0,none⟩ (.slice (some ⟨g',0,none⟩) ((aP pre).length + 1) cap)) (w.heap.size :: v.ownBlock.toList):=(f1.mono (fun y hy=>.inl (List.mem_cons_of_mem _ hy))).set (.inl List.mem_cons_self) 0 _;have hb1:Blk w1 w.heap.size 252 #[v]:=(hb.alloc o).grown hg (fun e=>(vb _ (by rw [← e];simp)).2.1 rfl);have e1:aP (pre ++ [x])=aP pre ++ [x.b + 1]:=by simp [aP]
 refine ⟨b8 f2 (fun y hy=>?_),⟨(h.rd.fr f2 (fun y hy hm=>?_)).more x,_,hb1.set 0 _,?_⟩,nE hB f2 hB.size (fun y hy=>?_)⟩
 ·rcases List.mem_cons.1 hy with rfl | hy
  ·exact .inr ⟨_,_,hb⟩
  ·obtain ⟨_,_,cs,hc⟩:=vb y hy;exact .inr ⟨_,cs,hc⟩
 ·have:=hlt y hy
  rcases List.mem_cons.1 hm with rfl | hm
  ·omega
  ·have:=(vb y hm).1;omega
 ·rw [e1,List.length_append,List.map_append]
  refine gV hown fun k cs e _ hk=>Below.heap_setCell _ _ _ _ ?_;show k≠w.heap.size
  exact hk.ty hb1 (by decide)
 ·rcases List.mem_cons.1 hy with rfl | hy
  ·exact Nat.le_refl _
  ·exact (vb y hy).1
theorem o9 (b rb g bl br fr tO:Nat) (ks:List Kp) (w:World) (hR:RdR ks b rb g bl br fr tO [] w) (hnd:(ks.map Kp.b).Nodup) (hri:ks.Pairwise fun x y=>x.p.n < y.p.n) (hlen:ks.length≤6000):
  Calls prog 216 #[.slice none 0 0,.func (.func 160) #[] #[↑(π bl),↑(π br)]] w
   fun e w'=>∃v,e=.returned v∧QR w' v (aP (yK ks fr tO))∧(∀k,v.ownBlock=some k→↑w≤k)∧Below ↑w w w':=by
 have hB0:Below ↑w w (w.alloc (.cells #[.slice none 0 0] 252)):=(Below.refl _ _).alloc (Nat.le_refl _) _;have HLt:=lh hR.lt;have hI0:AsI ks b rb g bl br fr tO w [] (w.alloc (.cells #[.slice none 0 0] 252)):=⟨hR.below ((Below.refl _ _).alloc (Nat.le_refl _) _),_,Blk.new _ _ _,World.ownsRow_nil _ _ _ _⟩;have HYl:Hid ((yK ks fr tO).length≤6000):=lh (Nat.le_trans (List.length_filter_le _ _) hlen);obtain ⟨i0,hi,hz0,hz1,hz2⟩:=info_parts GS;have HI:=lh hi;have HZ0:=lh hz0;have HZ1:=lh hz1;have HZ2:=lh hz2;have HS:=lh (jA 5 b rb g bl br fr tO ks (by omega) hnd hri hlen);clear hi hz0 hz1 hz2 hR hnd hri hlen;refine (callsIn_wide (n:=6)).1 ?_;refine callsIn_of_wp_marks func216 rfl trivial ?_ rfl;simp only [ntmps216,List.size_toArray,List.length_cons,List.length_nil,Nat.reduceAdd,Nat.reduceSub,Array.replicate_succ,Array.replicate_zero,List.push_toArray,List.append_toArray,List.nil_append,List.cons_append]
 gi_wp2
 refine fH.1 (gf:=160) (lb:=#[↑(π bl),↑(π br)]) rfl (enters_of func160 (by kernel_rfl) rfl) HS.out (fun _=>rfl)
  (fun pre W=>AsI ks b rb g bl br fr tO w pre W∧Below ↑w w W) (fun _ _ _=>False) (yN ks b rb g bl br fr tO w _ (by simp)) (fun _=>ownFrom_pure _ _) (fun pre A h=>h.1.rd) ⟨hI0,hB0⟩
  (fun x=>{tmps:=#[.slice none 0 0,.func (.func 160) #[] #[↑(π bl),↑(π br)],↑(π w.heap.size),undef,.slice none 0 0,↑(π x.b),.func (.func 160) #[] #[↑(π bl),↑(π br)],↑(π x.b),undef,undef,undef,undef,undef],defers:=[]})
  ?assign ?body ?done (fun D c pre W _ _ _ h _=>h.elim)
 case assign=>
  intro l x W K hK
  gi_wp2
  exact hK
 case body=>
  rintro l pre x W ⟨hI,hB⟩ hok;obtain ⟨v,hb,hv⟩:=hI.box;have c0:=hb.cell (i:=0) rfl;have f0:=hb.free 0;have HIx:=lh hI;have HB:=lh hB;have Hb:=lh hb;have HV:=lh hv;have hpl:pre.length + 1≤6000:=by
   have:=hok.length_le;rw [List.length_append] at this;exact Nat.le_trans this HYl.out
  have hil:(aP pre).length≤6000:=by rw [dK];omega
  clear hI hB hb hv hok hI0 hB0
  gi_wp2_with (gi_at_builtin;refine wpListIn_append_own _ rfl _ _ 252 rfl w.heap.size 177 i0 (.pointer none) 1 8 underlying252 HI.out HZ0.out HZ1.out HZ2.out rfl (by decide) v _ _ rfl (HV.out.alloc _) ⟨W.heap.size,0,none⟩ 1 1 [↑(π x.b)] rfl rfl (cell_one_new _ _ _) (by simp [Value.oneCell']) (by unfold maxLen;omega) (by omega) (by have:=HB.out.size;simp;omega) ?_;intro v' w1 hown' hgrow _;obtain ⟨g',cap',rfl⟩:=ownsRow_succ hown';have HOw:=lh hown';have HGr:=lh hgrow;have u0:w1.cell? ⟨w.heap.size,0,none⟩=some v:=((Hb.out.alloc _).grown hgrow (fun e=>(l5 HV.out e.symm).2.elim fun cs hc=>hc.ty Hb.out (by decide) rfl)).cell (i:=0) rfl;have u1:=((Hb.out.alloc _).grown hgrow (fun e=>(l5 HV.out e.symm).2.elim fun cs hc=>hc.ty Hb.out (by decide) rfl)).free 0;clear hown' hgrow)
  exact GU HLt.out HIx.out HB.out Hb.out HV.out rfl HOw.out HGr.out _
 case done=>
  rintro D xs W hD hDl rfl ⟨hI,hB⟩ hK;have hP:=(yN ks b rb g bl br fr tO w w.heap.size (Nat.le_refl _)).putObj (.deferred none) ⟨hI,hB⟩ (Nat.le_trans (by simp) hD) hK rfl;obtain ⟨v,hb,hv⟩:=hI.box;have c0:=hb.cell (i:=0) rfl;have hv2:=ownsRow_putObj hv (.deferred none) hK rfl;have HV:=lh hv;have HV2:=lh hv2;have HP:=lh hP.2;have HK:=lh hK;clear hI hB hb hv hv2 hP hI0 hB0 hD hDl hK
  gi_wp2
  refine ⟨by simp,.inl ⟨_,_,rfl,run_takeDeferred HK.out,?_⟩⟩;refine ⟨v,?_,v,rfl,GT HV2.out,fun k e=>(l5 HV2.out e).1,HP.out⟩;simp [results,Tryz.f216]
theorem mL (b rb g bl br fr tO:Nat) (ks:List Kp) (w:World) (hR:RdR ks b rb g bl br fr tO [] w) (hnd:(ks.map Kp.b).Nodup) (hri:ks.Pairwise fun x y=>x.p.n < y.p.n) (hlen:ks.length≤6000):
  Calls prog 165 #[.func (.func 160) #[] #[↑(π bl),↑(π br)]] w
   fun e w'=>∃v,e=.returned v∧QR w' v (aP (yK ks fr tO))∧(∀k,v.ownBlock=some k→↑w≤k)∧Below ↑w w w':=by
 have HA:=lh (o9 b rb g bl br fr tO ks w hR hnd hri hlen);clear hR hnd hri hlen;go_enter func165,ntmps165;go_wp2_with fail;refine (HA.out).mono ?_;rintro e w' ⟨v,rfl,h1,h2,h3⟩;have H1:=lh h1;have H2:=lh h2;have H3:=lh h3;clear h1 h2 h3 HA;go_wp2_with fail;go_ret;exact ⟨v,rfl,H1.out,H2.out,H3.out⟩
end

section
open Go.RowKit
def LS.with_ (s:LS) (l:List Kp):LS:={s with ks:=l}
theorem LS.sub_ok {s:LS} (h:s.ok) {l:List Kp} (hl:l.Sublist s.ks):(s.with_ l).ok:=
 ⟨h.nodup.sublist (hl.map Kp.b),h.rise.sublist hl,fun k hk=>h.lt k (hl.mem hk),fun k hk=>h.pk k (hl.mem hk),fun hm=>(h.mono hm).sublist hl,h.next,h.reorder,h.top,h.un⟩
theorem tY {s:LS} {l:List Kp} (h:aW l=aW s.ks) (rb rb':Nat):cK rb' (s.with_ l)=(cK rb s).setIfInBounds 0 ↑(π rb'):=by
 unfold cK LS.with_ tot cW;simp [h]
theorem jD {s:LS} {l:List Kp} (h:aW l=aW s.ks) (rb:Nat):cK rb (s.with_ l)=cK rb s:=by
 unfold cK LS.with_ tot cW;simp [h]
def GV:List Kp→Value
 | []=>.pointer none
 | k :: _=>↑(π k.b)
def GW:List Kp→Bool
 | []=>false
 | _ :: _=>true
theorem GX (h:cU w b g l):w.cell? ⟨b,2,none⟩=some (.int .i64 (l.length:Int)):=by
 obtain ⟨q,h1,rfl,h3⟩:=h;rw [RS.len_items];exact h3.head.cell (i:=2) rfl
def RG (w:World) (rb:Nat):Nat:=(intOf ((w.cell? ⟨rb,2,none⟩).getD undef)).toNat
theorem yO (h:cU w b g l):RG w b=l.length:=by
 unfold RG;rw [GX h];simp [intOf]
def MV (ks:List Kp) (p:Value) (q:Bool):Prop:=p=GV ks∧q=GW ks
theorem qA (b rb g:Nat) (ks:List Kp) (w:World) (h:LRd w b rb g ks) (p:Value) (q:Bool) (hp:MV ks p q):
  Calls prog 163 #[↑(π rb),.int .i64 0] w fun e w'=>e=.returned (.tuple #[p,.bool q])∧aB w w':=by
 obtain ⟨rfl,rfl⟩:=hp;cases ks with
 | nil=>exact tP rb g 0 (aP []) w h.row (.inr (by simp [aP]))
 | cons k t=>exact wK b rb g 0 (k :: t) w h (by simp)
structure rU (w:World) (b rb g:Nat) (s:LS) (ks:List Kp) (wr:World):Prop where
 led:∃g',LAt wr b rb g' (s.with_ ks)∧(g'=g∨w.heap.size≤g')
 suf:ks <:+ s.ks
 out:aW ks=aW s.ks
 fr:Fr w wr (aF b rb g s)
theorem rU.drawn {w wr w2:World} {b rb g:Nat} {s:LS} {ks:List Kp} (h:rU w b rb g s ks wr) (k:aB wr w2):rU w b rb g s ks w2:=by
 obtain ⟨⟨g',h1,h2⟩,h3,h4,h5⟩:=h;exact ⟨⟨g',h1.drawn k,h2⟩,h3,h4,h5.drawn k⟩
theorem BP {s:LS} {k:Kp} {t:List Kp} (hl:LAt wr b rb g' (s.with_ (k :: t))) (hg:g'=g∨w.heap.size≤g') (hs:(k :: t) <:+ s.ks) (ho:aW (k :: t)=aW s.ks) (hgn:k.gone=true) (hf:Fr w wr (aF b rb g s))
  (hp:lS wr rb g' (nU (k.b + 1) true) (aP t) (nU (k.b + 1) true) w2):rU w b rb g s t w2:=by
 obtain ⟨_,⟨g2,h1,h2⟩,h3⟩:=hp;have e1:aW t=aW s.ks:=by rw [← ho,lH,hgn];rfl
 have hsub:∀y∈t,y∈s.ks:=fun y hy=>hs.mem (List.mem_cons_of_mem _ hy);obtain ⟨c2,hc2⟩:=hl.row.body;obtain ⟨c1,hc1⟩:=hl.row.head;have hg2:∀{y T cs},Blk wr y T cs→T≠254→T≠177→y ∉ [rb,g']:=fun {y T cs} hy k1 k2 hm=>by
  simp at hm
  rcases hm with rfl | rfl
  ·exact hy.ty hc1 k1 rfl
  ·exact hy.ty hc2 k2 rfl
 refine ⟨⟨g2,⟨?_,h1,fun y hy=>?_⟩,?_⟩,(List.suffix_cons k t).trans hs,e1,?_⟩
 ·have:=hl.head.fr h3 (hg2 hl.head (by decide) (by decide))
  rw [jD ho] at this;rw [jD e1];exact this
 ·have hk:=hl.kept y (List.mem_cons_of_mem _ hy)
  exact hk.fr h3 (hg2 hk (by decide) (by decide))
 ·rcases h2 with rfl | h2
  ·exact hg
  ·right;have:=hf.size;omega
 ·refine hf.trans h3 (fun x hx=>?_)
  simp at hx
  rcases hx with rfl | rfl
  ·left;simp [aF]
  ·rcases hg with rfl | hg
   ·left;simp [aF]
   ·exact .inr hg
structure kU (w:World) (b rb g:Nat) (s:LS) (e:Ending) (w':World):Prop where
 e:e=.returned (.tuple #[])
 led:∃rb' g' ks,LAt w' b rb' g' (s.with_ ks)∧ks.Sublist s.ks∧aW ks=aW s.ks∧∀x∈aF b rb' g' (s.with_ ks),x∈aF b rb g s∨w.heap.size≤x
 fr:Fr w w' (aF b rb g s)
theorem tZ {s:LS} {ks:List Kp} (h:rU w b rb g s ks w'):kU w b rb g s (.returned (.tuple #[])) w':=by
 obtain ⟨⟨g',h1,h2⟩,h3,h4,h5⟩:=h;refine ⟨rfl,⟨rb,g',ks,h1,h3.sublist,h4,fun x hx=>?_⟩,h5⟩;simp only [aF,List.mem_cons,List.mem_map] at hx ⊢;rcases hx with rfl | rfl | rfl | ⟨k,hk,rfl⟩
 ·simp
 ·simp
 ·rcases h2 with rfl | h2
  ·simp
  ·exact .inr h2
 ·exact .inl (.inr (.inr (.inr ⟨k,h3.mem hk,rfl⟩)))
theorem l6 {ks:List Kp} (h:∀k∈ks,k.p.ok):yK ks 0 18446744073709551615=aW ks:=by
 unfold yK aW;apply List.filter_congr
 intro k hk;have:=(h k hk).n;have:decide (k.p.n≤↑ω)=true:=by simp;omega
 simp [inK,this]
theorem BQ (ks:List Kp):aW (aW ks)=aW ks:=by unfold aW;rw [List.filter_filter];simp
theorem yP {w1 w2 w3:World} {rb':Nat} {s:LS} {ks:List Kp} (hp:∀k∈s.ks,k.p.ok) (h:rU w b rb g s ks wr) (k1:Below ↑wr wr w3) (hr:cU w3 rb' g' (aP (aW ks))) (h1:↑wr≤rb') (h2:↑wr≤g'):
  kU w b rb g s (.returned (.tuple #[])) (w3.setCell ⟨b,0,none⟩ ↑(π rb')):=by
 obtain ⟨⟨g0,h3,h4⟩,h5,h6,h7⟩:=h;have hsz:=h7.size;have hbw:=h3.head.keep k1;have hb:=hbw.set 0 ↑(π rb');have e1:aW (aW ks)=aW s.ks:=by rw [BQ,h6]
 rw [jD h6,← tY e1] at hb;obtain ⟨c1,hc1⟩:=hr.head;obtain ⟨c2,hc2⟩:=hr.body;refine ⟨rfl,⟨rb',g',aW ks,⟨hb,hr.set_other (hc1.ty hbw (by decide)) (hc2.ty hbw (by decide)),fun y hy=>?_⟩,(fC ks).trans h5.sublist,e1,fun x hx=>?_⟩,(h7.below k1).set (.inl (by simp [aF])) 0 _⟩
 ·have hk:=(h3.kept y ((fC ks).mem hy)).keep k1
  exact hk.set_other 0 _ (hk.ty hbw (by decide))
 ·simp only [aF,List.mem_cons,List.mem_map] at hx ⊢
  rcases hx with rfl | rfl | rfl | ⟨k,hk,rfl⟩
  ·simp
  ·right;omega
  ·right;omega
  ·exact .inl (.inr (.inr (.inr ⟨k,h5.mem ((fC ks).mem hk),rfl⟩)))

theorem kD (b rb g:Nat) (s:LS) (w:World) (h:LAt w b rb g s) (hs:s.ok):
  Calls prog 115 #[↑(π b)] w (kU w b rb g s):=by
 have l0:=h.rd.cell0;obtain ⟨p0,q0,HV0⟩:∃p q,Hid (MV s.ks p q):=⟨_,_,lh ⟨rfl,rfl⟩⟩;have HF:=lh (qA b rb g s.ks w h.rd p0 q0 HV0.out);have HH:=lh h;have HS:=lh hs;have HLen:Hid (s.ks.length≤6000):=lh (Nat.le_trans (LS.len_le hs) hs.next);have ho:=LS.out_le hs;obtain ⟨o,hoo⟩:∃o,(aW s.ks).length=o:=⟨_,rfl⟩;rw [hoo] at ho;have HOut:=lh hoo;clear h hs hoo;go_enter func115,ntmps115;go_wp2_with fail;refine (HF.out).mono ?_;rintro e w1 ⟨rfl,hd⟩;have HI0:Hid (rU w b rb g s s.ks w1):=lh (rU.drawn ⟨⟨g,HH.out,.inl rfl⟩,List.suffix_refl _,rfl,Fr.refl _ _⟩ hd);clear hd HF l0;go_wp2_with fail;go_loopw [2,3] (fun p ok wr=>∃ks q,ok=.bool q∧MV ks p q∧rU w b rb g s ks wr) (fun _ _ wr=>RG wr rb)
 case atStart=>exact ⟨s.ks,_,rfl,HV0.out,HI0.out⟩
 case round=>
  obtain ⟨ks,q,rfl,hV,hI⟩:=hrel;clear HI0 HV0;rcases ks with _ | ⟨k,t⟩
  ·obtain ⟨rfl,rfl⟩:=hV
   simp only [GV,GW];have HI:=lh hI;obtain ⟨g1,hl1,_⟩:=hI.led;have HL:=lh (fun m=>(mY b rb g1 (([]:List Kp)) (wr.drewN m) (hl1.rd.keep (aB.below ⟨m,rfl⟩ _))).mono (fun e w' (h:e=_∧wr.drewN m=w')=>(⟨h.1,h.2.symm⟩:e=_∧w'=wr.drewN m)));have r0:=hl1.rd.cell0;have r1:wr.cell? ⟨b,1,none⟩=some (.int .i64 (o:Int)):=hl1.head.cell (i:=1) (by rw [← HOut.out,← hI.out];rfl);have hkl:(([]:List Kp)).length≤6000:=Nat.le_trans hI.suf.length_le HLen.out;have HKs:=lh (LS.sub_ok HS.out hI.suf.sublist);have hwr:IntKind.i64.wrap (2 * (o:Int))=2 * (o:Int):=IntWalk.i64_in _ (by omega);clear hI hl1;generalize hn:(([]:List Kp)).length=nk at hkl HL;have HNk:=lh hn;clear hn;by_cases hgt:2 * o < nk
   ·have d1:decide (2 * (o:Int) < (nk:Int))=true:=decide_eq_true (by omega)
    have HGt:=lh hgt;clear hgt;go_wp2_with fail;go_quiet ((go_at_call 162;exact Calls.quiet_of_same (HL.out _)))
    have HI1:=lh (HI.out.drawn ⟨nq,rfl⟩);clear r0 r1 hwr HI HL;generalize wr.drewN nq=w1 at *;have HC:=lh (rT b w1);obtain ⟨g2,hl2,_⟩:=HI1.out.led;have HR2:=lh ((hl2.keep (fR w1 b 0 18446744073709551615)).rdr (yL w1 b 0 18446744073709551615) (yM w1 b 0 18446744073709551615));have HCol:=lh (mL b rb g2 w1.heap.size (w1.heap.size + 1) 0 18446744073709551615 (([]:List Kp)) (bw1 w1 b 0 18446744073709551615) HR2.out HKs.out.nodup HKs.out.rise (by rw [HNk.out];exact hkl));clear hl2;go_wp2_with fail;refine (HC.out).mono ?_;rintro e w2 ⟨rfl,rfl⟩;unfold bfn;go_wp2_with fail;refine (HCol.out).mono ?_;rintro e w3 ⟨v,rfl,h1,h2,h3⟩;obtain ⟨p,c,rfl⟩:=h1.form;have HB3:=lh (aD (fR w1 b 0 18446744073709551615) h3 (by rw [tX];omega));have HNw:=lh (E6 p c _ w3 h1.nums (by rw [dK];have:=List.length_filter_le (inK 0 18446744073709551615) (([]:List Kp));unfold yK;rw [HNk.out] at this;omega));clear h1 h2 h3 HC HCol HR2;go_wp2_with fail;refine (HNw.out).mono ?_;rintro e w4 ⟨⟨rb2,g3,rfl,h1,h2,h3⟩,h4⟩;have HB4:=lh (aD HB3.out h4 HB3.out.size);have HNP:=lh (yP (w1:=w1) (w2:=w1) HS.out.pk HI1.out HB4.out (by rw [← l6 (ks:=([]:List Kp)) HKs.out.pk];exact h1) (Nat.le_trans HB3.out.size h2) (Nat.le_trans HB3.out.size h3));obtain ⟨g5,hl5,_⟩:=HI1.out.led;have f0:=(hl5.head.keep HB4.out).free 0;have c0:=(hl5.head.keep HB4.out).cell (i:=0) (v:=↑(π rb)) rfl;clear h1 h2 h3 h4 hl5 HNw;go_wp2_with fail;go_end0
    exact HNP.out
   ·have d1:decide (2 * (o:Int) < (nk:Int))=false:=decide_eq_false (by omega)
    clear hgt;go_wp2_with fail;go_quiet ((go_at_call 162;exact Calls.quiet_of_same (HL.out _)))
    have HI1:=lh (HI.out.drawn ⟨nq,rfl⟩);clear r0 r1 hwr HI HL;go_wp2_with fail;go_end0
    exact tZ HI1.out
  ·obtain ⟨rfl,rfl⟩:=hV
   simp only [GV,GW];have hk7:wr.cell? ⟨k.b,7,none⟩=some (.bool k.gone):=by
    obtain ⟨g1,hl1,_⟩:=hI.led;exact (fN (hl1.kept k List.mem_cons_self)).2.2.2.2.2.2.2
   cases hgn:k.gone
   ·rw [hgn] at hk7
    have HI:=lh hI;obtain ⟨g1,hl1,_⟩:=hI.led;have HL:=lh (fun m=>(mY b rb g1 (k :: t) (wr.drewN m) (hl1.rd.keep (aB.below ⟨m,rfl⟩ _))).mono (fun e w' (h:e=_∧wr.drewN m=w')=>(⟨h.1,h.2.symm⟩:e=_∧w'=wr.drewN m)));have r0:=hl1.rd.cell0;have r1:wr.cell? ⟨b,1,none⟩=some (.int .i64 (o:Int)):=hl1.head.cell (i:=1) (by rw [← HOut.out,← hI.out];rfl);have hkl:(k :: t).length≤6000:=Nat.le_trans hI.suf.length_le HLen.out;have HKs:=lh (LS.sub_ok HS.out hI.suf.sublist);have hwr:IntKind.i64.wrap (2 * (o:Int))=2 * (o:Int):=IntWalk.i64_in _ (by omega);clear hI hl1;generalize hn:(k :: t).length=nk at hkl HL;have HNk:=lh hn;clear hn;by_cases hgt:2 * o < nk
    ·have d1:decide (2 * (o:Int) < (nk:Int))=true:=decide_eq_true (by omega)
     have HGt:=lh hgt;clear hgt;go_wp2_with fail;go_quiet ((go_at_call 162;exact Calls.quiet_of_same (HL.out _)))
     have HI1:=lh (HI.out.drawn ⟨nq,rfl⟩);clear r0 r1 hwr HI HL;generalize wr.drewN nq=w1 at *;have HC:=lh (rT b w1);obtain ⟨g2,hl2,_⟩:=HI1.out.led;have HR2:=lh ((hl2.keep (fR w1 b 0 18446744073709551615)).rdr (yL w1 b 0 18446744073709551615) (yM w1 b 0 18446744073709551615));have HCol:=lh (mL b rb g2 w1.heap.size (w1.heap.size + 1) 0 18446744073709551615 (k :: t) (bw1 w1 b 0 18446744073709551615) HR2.out HKs.out.nodup HKs.out.rise (by rw [HNk.out];exact hkl));clear hl2;go_wp2_with fail;refine (HC.out).mono ?_;rintro e w2 ⟨rfl,rfl⟩;unfold bfn;go_wp2_with fail;refine (HCol.out).mono ?_;rintro e w3 ⟨v,rfl,h1,h2,h3⟩;obtain ⟨p,c,rfl⟩:=h1.form;have HB3:=lh (aD (fR w1 b 0 18446744073709551615) h3 (by rw [tX];omega));have HNw:=lh (E6 p c _ w3 h1.nums (by rw [dK];have:=List.length_filter_le (inK 0 18446744073709551615) (k :: t);unfold yK;rw [HNk.out] at this;omega));clear h1 h2 h3 HC HCol HR2;go_wp2_with fail;refine (HNw.out).mono ?_;rintro e w4 ⟨⟨rb2,g3,rfl,h1,h2,h3⟩,h4⟩;have HB4:=lh (aD HB3.out h4 HB3.out.size);have HNP:=lh (yP (w1:=w1) (w2:=w1) HS.out.pk HI1.out HB4.out (by rw [← l6 (ks:=k :: t) HKs.out.pk];exact h1) (Nat.le_trans HB3.out.size h2) (Nat.le_trans HB3.out.size h3));obtain ⟨g5,hl5,_⟩:=HI1.out.led;have f0:=(hl5.head.keep HB4.out).free 0;have c0:=(hl5.head.keep HB4.out).cell (i:=0) (v:=↑(π rb)) rfl;clear h1 h2 h3 h4 hl5 HNw;go_wp2_with fail;go_end0
     exact HNP.out
    ·have d1:decide (2 * (o:Int) < (nk:Int))=false:=decide_eq_false (by omega)
     clear hgt;go_wp2_with fail;go_quiet ((go_at_call 162;exact Calls.quiet_of_same (HL.out _)))
     have HI1:=lh (HI.out.drawn ⟨nq,rfl⟩);clear r0 r1 hwr HI HL;go_wp2_with fail;go_end0
     exact tZ HI1.out
   ·rw [hgn] at hk7
    obtain ⟨g1,hl1,hg1⟩:=hI.led;have r0:=hl1.rd.cell0;have HI:=lh hI;have HSh:=lh (LM rb g1 (k.b + 1) (aP t) wr hl1.row);have HL1:=lh hl1;have HG1:=lh hg1;have HGn:=lh hgn;have HRn:=lh (yO hl1.row);clear hI hl1 hg1 hgn;go_wp2_with fail;refine (HSh.out).mono ?_;rintro e w2 hp;obtain rfl:=hp.e;have HI2:=lh (BP HL1.out HG1.out HI.out.suf HI.out.out HGn.out HI.out.fr hp);obtain ⟨g2,hl2,_⟩:=HI2.out.led;have r0:=hl2.rd.cell0;obtain ⟨p2,q2,HV2⟩:∃p q,Hid (MV t p q):=⟨_,_,lh ⟨rfl,rfl⟩⟩;have HF2:=lh (qA b rb g2 t w2 hl2.rd p2 q2 HV2.out);clear hp hl2 HSh hk7;unfold nU;go_wp2_with fail;refine (HF2.out).mono ?_;rintro e w3 ⟨rfl,hd⟩;have HI3:=lh (HI2.out.drawn hd);clear hd r0 HF2 HI2;go_wp2_with fail;go_roundw
    case rel=>exact ⟨t,_,rfl,HV2.out,HI3.out⟩
    case measure=>
     obtain ⟨g3,hl3,_⟩:=HI3.out.led;rw [yO hl3.row,HRn.out];simp [aP,LS.with_]
end

section
open Go.RowKit Go.Shelf
attribute [local go_sem] Oper.semAt_some
theorem rV {o:Option Nat} (h:k∈o.toList):o=some k:=by
 cases o with
 | none=>cases h
 | some z=>simp at h;rw [h]
def UL (T:TypeId):Prop:=T≠97∧T≠190∧T≠156∧T≠254∧T≠177∧T≠208
theorem RdR.off {ks:List Kp} {fr:Nat} {pre:List Kp} (h:RdR ks b rb g bl br fr tO pre W) {z:Nat} {cs:Array Value} (hz:Blk W z T cs) (hT:UL T):∀y∈dD ks b rb g bl br,y≠z:=by
 intro y hy;obtain ⟨t1,t2,t3,t4,t5,t6⟩:=hT;obtain ⟨c0,h0,_⟩:=h.rd.head;obtain ⟨c1,hr1⟩:=h.rd.row.head;obtain ⟨c2,hr2⟩:=h.rd.row.body;simp only [dD,List.mem_cons,List.mem_map] at hy;rcases hy with rfl | rfl | rfl | rfl | rfl | ⟨k,hk,rfl⟩
 ·exact h.hl.ty hz (Ne.symm t1)
 ·exact h.hr.ty hz (Ne.symm t2)
 ·exact h0.ty hz (Ne.symm t3)
 ·exact hr1.ty hz (Ne.symm t4)
 ·exact hr2.ty hz (Ne.symm t5)
 ·obtain ⟨gn,hg⟩:=h.rd.kept k hk
  exact hg.ty hz (Ne.symm t6)
end

section
open Go.RowKit
def LS.empty (reorder:Nat):LS:=⟨[],false,reorder,0,0,false⟩
theorem LS.empty_ok {reorder:Nat} (h:reorder≤↑ω):(LS.empty reorder).ok:=
 ⟨List.nodup_nil,List.Pairwise.nil,(fun k h=>by cases h),(fun k h=>by cases h),fun _=>List.Pairwise.nil,Nat.zero_le _,h,Nat.zero_le _,fun _=>rfl⟩
structure UM (w:World) (s:LS) (e:Ending) (w':World):Prop where
 at_:∃b rb g,e=.returned ↑(π b)∧LAt w' b rb g s∧∀x∈aF b rb g s,↑w≤x
 bel:Below ↑w w w'
theorem MW (reorder:Nat) (w:World):
  Calls prog 55 #[↑reorder] w (UM w (LS.empty reorder)):=by
 have HN:Hid (Calls prog 100 #[.slice none 0 0] w (OX w [])):=lh (E6 none 0 [] w (fun h=>absurd h (by simp)) (by simp));go_enter func55,ntmps55;go_wp2_with fail;refine (HN.out).mono ?_;rintro e w1 ⟨⟨rb,g,rfl,h1,h2,h3⟩,h4⟩;have H1:=lh h1;have H2:=lh h2;have H3:=lh h3;have H4:=lh h4;clear h1 h2 h3 h4 HN;go_wp2_with fail;go_ret;have e:cK rb (LS.empty reorder)=#[↑(π rb),.int .i64 0,↑ζ,↑ζ,.bool false,↑reorder,↑ζ,↑ζ,.bool false]:=by
  simp [cK,LS.empty,aW,tot,cW,lG]
 refine ⟨⟨w1.heap.size,rb,g,rfl,⟨by rw [e];exact Blk.new _ _ _,H1.out.alloc _,fun k h=>by cases h⟩,?_⟩,H4.out.alloc H4.out.size _⟩;intro x hx;simp [aF,LS.empty] at hx
 rcases hx with rfl | rfl | rfl
 ·exact H4.out.size
 ·exact H2.out
 ·exact H3.out
def wL (T:Nat):Nat:=if T < M64 then T else 18446744073709551615
theorem rW (b rb g:Nat) (s:LS) (w:World) (h:LAt w b rb g s):
  Calls prog 43 #[↑(π b)] w fun e w'=>e=.returned ↑(wL (tot s.ks):Nat)∧w=w':=by
 have h2:=h.head.cell (i:=2) (v:=↑(tot s.ks / M64:Nat)) rfl;have h3:=h.head.cell (i:=3) (v:=↑(tot s.ks % M64:Nat)) rfl;clear h;have hc:(0 < tot s.ks / M64∧wL (tot s.ks)=18446744073709551615)∨(tot s.ks / M64=0∧wL (tot s.ks)=tot s.ks % M64):=by
  unfold wL;by_cases c:tot s.ks < M64
  ·rw [if_pos c,Nat.div_eq_of_lt c,Nat.mod_eq_of_lt c];exact .inr ⟨rfl,rfl⟩
  ·rw [if_neg c];exact .inl ⟨Nat.div_pos (by omega) eZ,rfl⟩
 rcases hc with ⟨c1,c2⟩ | ⟨c1,c2⟩
 ·rw [c2]
  clear c2;generalize tot s.ks / M64=hi at *;generalize tot s.ks % M64=lo at *;have d:decide (0 < hi)=true:=by simpa using c1
  go_enter func43,ntmps43;go_wp2;go_ret;exact ⟨rfl,rfl⟩
 ·rw [c2]
  rw [c1] at h2;clear c1 c2;generalize tot s.ks % M64=lo at *;go_enter func43,ntmps43;go_wp2;go_ret;exact ⟨rfl,rfl⟩
end
end Go.Proofs.YtjhiooggnpbecaaGreatDoor
