/- Lemmas. -/
import Derived.Test.YtjhiooggnpbecaaGreatDoorK417
import Derived.Test.YtjhiooggnpbecaaGreatDoorK443
set_option linter.unusedVariables false
set_option maxHeartbeats 1000000
set_option maxRecDepth 100000
namespace Go.Proofs.YtjhiooggnpbecaaGreatDoor
open Tryz
open Go.RowKit
structure SP (W:World) (p:LP) (l:List Pk) (s:LKS) (e:Ending) (w:World):Prop where
 e:∃v,e=.returned v∧bQ 73 W.heap.size w v l
 li:LI W p s w
structure LY (W:World) (p:LP) (z:Nat) (cs:Array Value) (v:Value) (l:List Pk) (s:LKS) (w:World):Prop where
 x:LX W p z 73 cs s w
 own:bQ 73 W.heap.size w v l
theorem LY.to {W w w':World} {p:LP} {z:Nat} {cs:Array Value} {v:Value} {l:List Pk} {s:LKS} (h:LY W p z cs v l s w) (k:Below ↑w w w'):LY W p z cs v l s w':=⟨h.x.to k,h.own.keep k⟩
theorem LY.set2 {W w:World} {p:LP} {z:Nat} {cs:Array Value} {v:Value} {l:List Pk} {s s':LKS} (h:LY W p z cs v l s w) (i j:Nat) (u u':Value) (he:((s.cells p).setIfInBounds i u).setIfInBounds j u'=s'.cells p) (h3:s.k=s'.k∧s.q=s'.q∧s.j=s'.j):LY W p z cs v l s' ((w.setCell ⟨p.b,i,none⟩ u).setCell ⟨p.b,j,none⟩ u'):=by
 refine ⟨h.x.set2 i j u u' he h3,?_⟩;obtain ⟨g,m,h1,_⟩:=h.x.at_;exact h.own.blk (fun b ds _ hb=>(hb.set_other i u (hb.ty h1.head (by decide))).set_other j u' (hb.ty h1.head (by decide)))
theorem LQ (W:World) (p:LP) (z:Nat) (cs:Array Value) (v:Value) (l:List Pk) (s:LKS) (c0 n:Nat) (hc:c0≤1267650600228229401496703205376) (hn:n≤↑ω):∀w,Hid (LY W p z cs v l s w)→
  Calls prog 135 #[.agg #[↑(LKS.hi c0),↑(LKS.lo c0)],↑n] w fun e w'=>e=.returned (.agg #[↑(LKS.hi (c0 + n)),↑(LKS.lo (c0 + n))])∧Hid (LY W p z cs v l s w'):=
 fun w h=>(wX c0 n w hc hn).mono fun e w' q=>⟨q.1,lh (h.out.to q.2)⟩
theorem O8 {W:World} {p:LP} {s:LKS}:(∀w,Hid (LI W p s w)→w.cell? ⟨p.b,4,none⟩=some ↑(π p.kb))∧(∀w,Hid (LI W p s w)→w.cell? ⟨p.b,5,none⟩=some ↑(π p.qb))∧(∀w,Hid (LI W p s w)→w.cell? ⟨p.b,6,none⟩=some ↑(π p.jb))∧(∀w,Hid (LI W p s w)→w.cell? ⟨p.b,7,none⟩=some ↑s.t):=
 ⟨fun w h=>h.out.kp.1,fun w h=>h.out.kp.2.1,fun w h=>h.out.kp.2.2,fun w h=>h.out.cell (fun _=>rfl)⟩
theorem O9 (W:World) (p:LP) (s:LKS) (hm:s.j.l.length≤5500) (w:World) (h:LI W p s w):
  Calls prog 138 #[↑(π p.jb),↑s.t] w fun e w'=>∃v,e=.returned v∧Hid (bQ 73 W.heap.size w' v s.out)∧Hid (LI W p (s.withJ (s.j.outB s.t)) w'):=by
 obtain ⟨g,i,h1,h2⟩:=h.at_;refine (O6 p.jb p.jr i s.t s.j w h1.j hm).mono fun e w' k=>?_;obtain ⟨v,he,hv⟩:=k.e;exact ⟨v,he,lh (hv.weak h.fr.size),lh (h.j h1 h2 k.at_ k.fr)⟩
theorem rI (s:LKS):s.deliver=(s.withJ (s.j.outB s.t)).withD (s.deliv + cV s.out):=rfl
theorem PA (s:LKS) (a b:Nat):(s.withD a).withD b=s.withD b:=rfl
theorem GR (l:List Pk) (x:Pk):cV (l ++ [x])=cV l + x.size:=by rw [iJ,eM,kB];omega
theorem vP (p:LP) (s:LKS) (N:Nat) (W:World) (h:cY W p s) (ho:s.ok N) (hN:N≤5500):
  Calls prog 76 #[↑(π p.b)] W (SP W p s.out s.deliver):=by
 have M0:=lh (LI.start h).drew;have HO:=lh (O9 W p s (by have:=ho.n;omega));have HZ:=lh (LKS.out_size ho);have HD:Hid (s.deliv≤1267650600228229401496703205376 - 18446744073709551615 * 5500):=lh (by have:=ho.c1;have:=ho.c2;have:=ho.came;omega);have HLn:Hid (s.out.length≤5500):=lh (by have:=ho.n;have:=BxS.told_len s.j s.t;show (s.j.told s.t).length≤5500;omega);have HE:=lh (rI s);obtain ⟨_,_,r6,r7⟩:=O8 (W:=W) (p:=p) (s:=s);clear h ho hN;go_enter func76,ntmps76;go_wp2_with fail;refine aR (S:=(fun w'=>Hid (LI W p s w'))) 8 (by kernel_rfl) (by kernel_rfl) (by kernel_rfl) M0 ?_;generalize W.drew=wd at *;simp only [List.size_toArray,List.length_cons,List.length_nil,Nat.reduceAdd,Array.replicate_succ,Array.replicate_zero,List.push_toArray,List.nil_append,List.cons_append];refine ckc 0 ?_;refine ckc 1 ?_;refine ckc 2 ?_;refine cks 3 ?_;refine ckc 4 ?_;refine ckc 5 ?_;refine ckc 6 ?_;refine cks 7 ?_;refine bL.last (by kernel_rfl) (fun w hSw=>?_);refine rdy [8] ?_;refine cns (fun K hK=>?_) .nil;go_simp;refine (HO.out _ hSw.out).mono ?_;rintro e w1 ⟨v,rfl,V1,M1⟩;clear hSw M0 HO r6 r7;go_wp2_with fail;refine bck hK trivial (fun _=>?_);clear hK;refine tkc 9 ?_ trivial;refine wpAnyH_done (by kernel_rfl) ?_ _;skip
 generalize s.out=l at *;obtain ⟨ao,cap,rfl,hc1,hc2,_,_⟩:=V1.out.form;have HB:Hid (LI W p ((s.withJ (s.j.outB s.t)).withD s.deliv) w1):=M1;have EW:=lh (fun a b=>PA (s.withJ (s.j.outB s.t)) a b);have ED:Hid (((s.withJ (s.j.outB s.t)).withD (s.deliv + cV l))=s.deliver):=lh HE.out.symm;clear M1 HE;generalize s.withJ (s.j.outB s.t)=s2 at *;generalize s.deliv=d0 at *;go_wp2_with fail;go_loopw [17] (fun i wr=>∃k:Nat,i=.int .i64 (k:Int)∧k≤l.length∧Hid (LI W p (s2.withD (d0 + cV (l.take k))) wr)∧Hid (bQ 73 W.heap.size wr (.slice ao l.length cap) l)) (fun i _=>l.length - (intOf i).toNat)
 case atStart=>exact ⟨0,rfl,Nat.zero_le _,HB,V1⟩
 case round=>
  obtain ⟨k,rfl,hk,HL,HV⟩:=hrel;obtain ⟨ao',cap',hv',_,_,hit,_⟩:=HV.out.form;cases hv'
  by_cases hlt:k < l.length
  ·obtain ⟨ad,rfl,_⟩:=hit.cells (by omega)
   obtain ⟨g,off,rfl,_,hc⟩:=uF hit (by omega);obtain ⟨x,hx⟩:∃x,x=l.getD k Itm.z:=⟨_,rfl⟩;obtain ⟨a0,a1,a2,a3,a4,a5,a6⟩:=hc k hlt x hx;have HT:Hid (cV (l.take (k + 1))=cV (l.take k) + x.size):=lh (by rw [oU l k hlt x hx];exact GR _ _);have hxm:x∈l:=by rw [hx];simp [hlt]
   have hxs:=lh (HZ.out x hxm);have htk:cV (l.take k)≤↑ω * 5500:=by
    have h1:=JW (l:=l.take k) (fun y hy=>HZ.out y (List.mem_of_mem_take hy));have h2:(l.take k).length≤5500:=by rw [List.length_take];have:=HLn.out;omega
    omega
   have hd0:=HD.out;have hk5:k < 5500:=by have:=HLn.out;omega
   have HC0:Hid (d0 + cV (l.take k)≤1267650600228229401496703205376):=lh (by omega);have HT2:Hid (d0 + cV (l.take (k + 1))=d0 + cV (l.take k) + x.size):=lh (by rw [HT.out];omega);have i0:(0:Int)≤(k:Int):=by omega
   have i1:(k:Int) < (l.length:Int):=by omega
   clear hc hx hxm HT HZ HB V1 hit htk hd0;generalize d0 + cV (l.take k)=c0 at *;obtain ⟨s1,hs1⟩:∃s1,s1=s2.withD c0:=⟨_,rfl⟩;have Es1:Hid (∀c,s1.withD c=s2.withD c):=lh (fun c=>by rw [hs1];rfl);have hc0:s1.deliv=c0:=by rw [hs1];rfl
   rw [← hs1] at HL;have HB:Hid (LY W p wr.heap.size #[↑x.n,↑x.size,↑x.sent,↑x.first,↑x.deliv,↑x.at_,.bool x.lim] (.slice (some ⟨g,off,none⟩) l.length cap) l s1 (wr.alloc (.cells #[↑x.n,↑x.size,↑x.sent,↑x.first,↑x.deliv,↑x.at_,.bool x.lim] 73))):=lh ⟨HL.out.box _ _,HV.out.keep (aC _ _)⟩;clear HL HV hs1;go_upto_region 5 with fail
   clear a0 a1 a2 a3 a4 a5 a6;generalize wr.alloc (.cells #[↑x.n,↑x.size,↑x.sent,↑x.first,↑x.deliv,↑x.at_,.bool x.lim] 73)=w1 at *;generalize wr.heap.size=z at *;obtain ⟨v,hv⟩:∃v,v=Value.slice (some ⟨g,off,none⟩) l.length cap:=⟨_,rfl⟩;have HM:=lh (LQ W p z #[↑x.n,↑x.size,↑x.sent,↑x.first,↑x.deliv,↑x.at_,.bool x.lim] v l s1 c0 x.size HC0.out hxs.out);have HCs:Hid (∀(c:Nat) (p:LP),((s1.cells p).setIfInBounds 12 ↑(LKS.hi c)).setIfInBounds 13 ↑(LKS.lo c)=(s1.withD c).cells p):=lh (fun c p=>zM s1 c p);obtain ⟨rh',rl'⟩:=EG (W:=W) (p:=p) (z:=z) (cs:=#[↑x.n,↑x.size,↑x.sent,↑x.first,↑x.deliv,↑x.at_,.bool x.lim]) (s:=s1);have rh:∀w,Hid (LY W p z #[↑x.n,↑x.size,↑x.sent,↑x.first,↑x.deliv,↑x.at_,.bool x.lim] v l s1 w)→w.cell? ⟨p.b,12,none⟩=some ↑(LKS.hi c0):=fun w h=>by rw [← hc0];exact rh' w (lh h.out.x)
   have rl:∀w,Hid (LY W p z #[↑x.n,↑x.size,↑x.sent,↑x.first,↑x.deliv,↑x.at_,.bool x.lim] v l s1 w)→w.cell? ⟨p.b,13,none⟩=some ↑(LKS.lo c0):=fun w h=>by rw [← hc0];exact rl' w (lh h.out.x)
   have rz:∀w,Hid (LY W p z #[↑x.n,↑x.size,↑x.sent,↑x.first,↑x.deliv,↑x.at_,.bool x.lim] v l s1 w)→w.cell? ⟨z,1,none⟩=some ↑x.size:=fun w h=>jE (s:=s1) x w (lh h.out.x);have M0:Hid (LY W p z #[↑x.n,↑x.size,↑x.sent,↑x.first,↑x.deliv,↑x.at_,.bool x.lim] v l s1 w1.drew):=lh (by rw [hv];exact HB.out.to ((aB.drew _).below _));have HVv:=lh hv;clear HB hc0 rh' rl' hv;go_wp2_with fail;refine aR (S:=(fun w'=>Hid (LY W p z #[↑x.n,↑x.size,↑x.sent,↑x.first,↑x.deliv,↑x.at_,.bool x.lim] v l s1 w'))) 10 (by kernel_rfl) (by kernel_rfl) (by kernel_rfl) M0 ?_;simp only [List.size_toArray,List.length_cons,List.length_nil,Nat.reduceAdd,Array.replicate_succ,Array.replicate_zero,List.push_toArray,List.nil_append,List.cons_append];refine ckc 0 ?_;refine ckc 1 ?_;refine ckc 2 ?_;refine ckc 3 ?_;refine cks 4 ?_;refine ckc 5 ?_;refine cks 6 ?_;refine ckl 7 (fun w hS=>HM.out w hS) ?_;refine ckc 8 ?_;refine ckc 9 ?_;refine bL.last (by kernel_rfl) (fun w hSw=>?_);refine rdy [10] ?_;refine cns (fun K hK=>?_) .nil;have g0:=hSw.out.x.li.free 12;have g1:=hSw.out.x.li.free 13;have g2:=rh _ hSw;have g3:=rl _ hSw;have M2:=lh (hSw.out.set2 (s':=(s1).withD (c0 + x.size)) 12 13 ↑(LKS.hi (c0 + x.size)) ↑(LKS.lo (c0 + x.size)) (HCs.out _ _) ⟨rfl,rfl,rfl⟩);clear hSw rh rl rz;go_simp;refine bck hK trivial (fun _=>?_);clear hK;refine wpAnyH_done (by kernel_rfl) ?_ _;skip
   clear HM HCs g0 g1 g2 g3 M0;rw [Es1.out] at M2;generalize (w.setCell ⟨p.b,12,none⟩ ↑(LKS.hi (c0 + x.size))).setCell ⟨p.b,13,none⟩ ↑(LKS.lo (c0 + x.size))=w2 at *;go_wp2_with fail;go_roundw
   case rel=>exact ⟨k + 1,by go_num,by omega,by rw [HT2.out];exact lh M2.out.x.li,lh (HVv.out▸M2.out.own)⟩
   case measure=>simp [intOf];omega
  ·obtain rfl:k=l.length:=by omega
   rw [List.take_length] at *;go_wp2_with fail;go_ret;exact ⟨⟨_,rfl,HV.out⟩,ED.out▸HL.out⟩
end Go.Proofs.YtjhiooggnpbecaaGreatDoor
