/- Lemmas. -/
import Derived.Test.YtjhiooggnpbecaaGreatDoorK426
set_option linter.unusedVariables false
set_option maxHeartbeats 2000000
set_option maxRecDepth 100000
namespace Go.Proofs.YtjhiooggnpbecaaGreatDoor
open Tryz
open Go.RowKit
variable {x:Kp} {s:LS} {b g rb:Nat} {w:World}
def tw1 (w:World) (b av:Nat):World:=(w.alloc (.cells #[↑(π b)] 97)).alloc (.cells #[↑(π av)] 202)
def tfn (w:World):Value:=.func (.func 159) #[] #[↑(π w.heap.size),↑(π (w.heap.size + 1))]
theorem oZ (b av:Nat) (w:World):
  Calls prog 112 #[↑(π b),↑(π av)] w fun e w'=>e=.returned (tfn w)∧w'=tw1 w b av:=by
 go_enter func112,ntmps112;go_wp2;go_ret;exact ⟨rfl,rfl⟩
theorem o8 (w:World) (b av:Nat):Below ↑w w (tw1 w b av):=((Below.refl _ _).alloc (Nat.le_refl _) _).alloc (by simp) _
theorem MX (w:World) (b av:Nat):Blk (tw1 w b av) w.heap.size 97 #[↑(π b)]:=(Blk.new _ _ _).alloc _
theorem MY (w:World) (b av:Nat):Blk (tw1 w b av) (w.heap.size + 1) 202 #[↑(π av)]:=Blk.new1 _ _ _ _
structure nB (w:World) (b rb g av:Nat) (x:Kp) (s:LS) (v:Value) (l:List Pk) (e:Ending) (w':World):Prop where
 e:e=.returned (.tuple #[])
 led:LAt w' b rb g (s.take [x.b])
 out:∃v',Blk w' av 67 #[v']∧PR w' v' (l ++ [x.p])∧(∀k,v'.ownBlock=some k→v.ownBlock=some k∨w.heap.size≤k)
 fr:Fr w w' (b :: x.b :: av :: v.ownBlock.toList)
theorem FA {w':World} {L:List Nat} (h:LAt w b rb g s) (hs:s.ok) (hx:x∈s.ks) (k:Fr w w' (b :: x.b :: L)) (hL:∀y∈L,∃T cs,Blk w y T cs∧T≠208∧T≠254∧T≠177)
  (hb:Blk w' b 156 (cI rb (s.take [x.b]))) (hk:Blk w' x.b 208 (Kp.cells x.p true)):LAt w' b rb g (s.take [x.b]):=by
 have nL:∀{y T cs},Blk w y T cs→(T=208∨T=254∨T=177)→y ∉ L:=fun {y T cs} hy hT hm=>by
  obtain ⟨T',cs',h1,h2,h3,h4⟩:=hL y hm;refine hy.ty h1 ?_ rfl;rcases hT with rfl | rfl | rfl
  ·exact Ne.symm h2
  ·exact Ne.symm h3
  ·exact Ne.symm h4
 obtain ⟨c1,hc1⟩:=h.row.head;obtain ⟨c2,hc2⟩:=h.row.body;refine ⟨hb,?_,fun y hy=>?_⟩
 ·have e:aP (s.take [x.b]).ks=aP s.ks:=by
   have:=congrArg (List.map (· + 1)) (i9 [x.b] s.ks);rw [List.map_map,List.map_map] at this;exact this
  rw [e];refine h.row.fr k ?_ ?_
  ·have a1:=hc1.ty h.head (by decide)
   have a2:=hc1.ty (h.kept x hx) (by decide);have a3:=nL hc1 (.inr (.inl rfl));simp [a1,a2,a3]
  ·have a1:=hc2.ty h.head (by decide)
   have a2:=hc2.ty (h.kept x hx) (by decide);have a3:=nL hc2 (.inr (.inr rfl));simp [a1,a2,a3]
 ·obtain ⟨z,hz,e1,e2,e3⟩:=jA hy
  by_cases c:z.b=x.b
  ·obtain rfl:z=x:=by
    obtain ⟨i,hi,ei⟩:=List.mem_iff_getElem.1 hz;obtain ⟨j,hj,ej⟩:=List.mem_iff_getElem.1 hx;have hn:=hs.nodup;have key:∀{p q:Nat} (hp:p < s.ks.length) (hq:q < s.ks.length),p < q→s.ks[p].b≠s.ks[q].b:=fun {p q} hp hq hpq=>by
     have:=List.pairwise_iff_getElem.1 hn p q (by rw [List.length_map];exact hp) (by rw [List.length_map];exact hq) hpq;rwa [List.getElem_map,List.getElem_map] at this
    rcases Nat.lt_trichotomy i j with d | d | d
    ·exact absurd (by rw [ei,ej];exact c) (key hi hj d)
    ·subst d;rw [← ei,← ej]
    ·exact absurd (by rw [ei,ej];exact c.symm) (key hj hi d)
   rw [← e1,← e2,e3];have:(z.gone || decide (z.b∈[z.b]))=true:=by simp
   rw [this];exact hk
  ·rw [← e1,← e2,e3]
   have:(z.gone || decide (z.b∈[x.b]))=z.gone:=by simp [c]
   rw [this];have hzk:=h.kept z hz;refine hzk.fr k ?_;have a1:=hzk.ty h.head (by decide);have a3:=nL hzk (.inl rfl);simp [a1,a3,c]
theorem FB {w4 w5:World} {av g0 cap cv:Nat} {pv0:Option Addr} {s':LS} {l:List Pk} {o:Obj} (es:s'=s.take [x.b])
  (HTL:∀w' L,Fr w w' (b :: x.b :: L)→(∀y∈L,∃T cs,Blk w y T cs∧T≠208∧T≠254∧T≠177)→Blk w' b 156 (cI rb s')→Blk w' x.b 208 (Kp.cells x.p true)→LAt w' b rb g s')
  (F4:Fr w w4 [b,x.b]) (B4:Blk w4 b 156 (cI rb s')) (K4:Blk w4 x.b 208 (Kp.cells x.p true)) (A4:Blk w4 av 67 #[.slice pv0 l.length cv]) (HA:Blk w av 67 #[.slice pv0 l.length cv])
  (HV:PR w (.slice pv0 l.length cv) l) (ane1:av≠x.b) (ane2:av≠b) (HVb:∀k,(Value.slice pv0 l.length cv).ownBlock=some k→k≠b∧k≠x.b∧k≠av∧k < w.heap.size)
  (HGr:(w4.alloc o).drew.grownBy w5 (Value.slice pv0 l.length cv).ownBlock) (HOn:w5.ownsRow 0 73 7 (.slice (some ⟨g0,0,none⟩) (l.length + 1) cap) (l.length + 1) (pcs l ++ pcs [x.p])) (HAt:(Value.slice pv0 l.length cv).ownBlock=some g0∨g0=w4.heap.size + 1):
  nB w b rb g av x s (.slice pv0 l.length cv) l (.returned (.tuple #[])) (w5.setCell ⟨av,0,none⟩ (.slice (some ⟨g0,0,none⟩) (l.length + 1) cap)):=by
 subst es;have hs4:=F4.size;have g5:Fr (w4.alloc o).drew w5 (Value.slice pv0 l.length cv).ownBlock.toList:=⟨HGr.os,HGr.tape,HGr.output,HGr.size,fun k hk hl=>HGr.block k hk (fun e=>hl (by rw [← e];simp))⟩;have f5:Fr w w5 (b :: x.b :: av :: (Value.slice pv0 l.length cv).ownBlock.toList):=
  (((F4.alloc o).drawn (aB.drew _)).mono (l':=b :: x.b :: av :: (Value.slice pv0 l.length cv).ownBlock.toList) (fun y hy=>.inl (by simp at hy;rcases hy with rfl | rfl <;> simp))).trans g5 (fun y hy=>.inl (by simp only [List.mem_cons];exact .inr (.inr (.inr hy))))
 have f6:=f5.set (c:=av) (.inl (by simp)) 0 (.slice (some ⟨g0,0,none⟩) (l.length + 1) cap);have nb:some b≠(Value.slice pv0 l.length cv).ownBlock:=fun e=>(HVb b e.symm).1 rfl;have nk:some x.b≠(Value.slice pv0 l.length cv).ownBlock:=fun e=>(HVb x.b e.symm).2.1 rfl;have na:some av≠(Value.slice pv0 l.length cv).ownBlock:=fun e=>(HVb av e.symm).2.2.1 rfl;have b6:=(((B4.alloc o).drew).grown HGr nb).set_other 0 (.slice (some ⟨g0,0,none⟩) (l.length + 1) cap) (Ne.symm ane2);have k6:=(((K4.alloc o).drew).grown HGr nk).set_other 0 (.slice (some ⟨g0,0,none⟩) (l.length + 1) cap) (Ne.symm ane1);have a6:=(((A4.alloc o).drew).grown HGr na).set 0 (.slice (some ⟨g0,0,none⟩) (l.length + 1) cap);have hga:g0≠av:=by
  rcases HAt with e | e
  ·exact (HVb g0 e).2.2.1
  ·have:=HA.lt;omega
 have hv:PR w5 (.slice (some ⟨g0,0,none⟩) (l.length + 1) cap) (l ++ [x.p]):=PR.app rfl HOn;refine ⟨rfl,HTL _ (av :: (Value.slice pv0 l.length cv).ownBlock.toList) f6 ?_ b6 k6,⟨_,a6,hv.same fun k cs e _=>Below.heap_setCell _ _ _ _ ?_,fun k e=>?_⟩,f6⟩
 ·intro y hy
  rcases List.mem_cons.1 hy with rfl | hy
  ·exact ⟨_,_,HA,by decide,by decide,by decide⟩
  ·have:(Value.slice pv0 l.length cv).ownBlock=some y:=by
    cases h:(Value.slice pv0 l.length cv).ownBlock with
    | none=>rw [h] at hy;cases hy
    | some z=>rw [h] at hy;simp at hy;rw [hy]
   obtain ⟨cs,hc⟩:=HV.blk this;exact ⟨_,cs,hc,by decide,by decide,by decide⟩
 ·simp [Value.ownBlock] at e;show k≠av;rw [← e];exact hga
 ·simp [Value.ownBlock] at e
  subst e;rcases HAt with h | h
  ·exact .inl h
  ·right;omega
theorem iT (b rb g bl bt av:Nat) (x:Kp) (s:LS) (v:Value) (l:List Pk) (w:World) (h:LAt w b rb g s) (hs:s.ok) (hx:x∈s.ks) (hg:x.gone=false)
  (hl:Blk w bl 97 #[↑(π b)]) (ht:Blk w bt 202 #[↑(π av)]) (ha:Blk w av 67 #[v]) (hv:PR w v l) (hll:l.length≤7000):
  Calls prog 159 #[↑(π x.b),↑(π bl),↑(π bt)] w (nB w b rb g av x s v l):=by
 obtain ⟨e1,e2⟩:=BL hs hx hg;obtain ⟨br,hbr,hdiv,hsub⟩:=zE (tot (s.take [x.b]).ks) x.p.size (hs.pk x hx).lt;rw [e2] at hdiv hsub;have HK:=lh (h.kept x hx);rw [hg] at HK;have HHd:=lh h.head;have hbx:b≠x.b:=HHd.out.ty HK.out (by decide);have l0:=hl.cell (i:=0) rfl;have lne1:bl≠x.b:=hl.ty HK.out (by decide);have lne2:bl≠b:=hl.ty HHd.out (by decide);have h1:=HHd.out.cell (i:=1) (v:=.int .i64 ((aW s.ks).length:Int)) rfl;have h2:=HHd.out.cell (i:=2) (v:=↑(tot s.ks / M64:Nat)) rfl;have h3:=HHd.out.cell (i:=3) (v:=↑(tot s.ks % M64:Nat)) rfl;have f1:=HHd.out.free 1;have f2:=HHd.out.free 2;have f3:=HHd.out.free 3;have k1:=(fH HK.out).2.1;have k7:=(fH HK.out).2.2.2.2.2.2.2;have g7:=HK.out.free 7;have hlo:=LS.out_le hs;have HH:=lh h;have HS:=lh hs;have HX:=lh hx;have HL:=lh hl;have HT:=lh ht;have HA:=lh ha;have HV:=lh hv;have E1:=lh e1;have E2:=lh e2;have HDiv:=lh hdiv;clear h hs hx hg hl ht ha hv e1 e2 hdiv;have hbx':x.b≠b:=Ne.symm hbx;have ho1:(aW s.ks).length=(aW (s.take [x.b]).ks).length + 1:=E1.out.symm;have hhi:tot s.ks / M64=tot (s.take [x.b]).ks / M64 + br:=HDiv.out;have hhl:tot s.ks / M64≤6000:=by
  have:=LS.tot_le HS.out;have:=Nat.div_le_div_right (c:=M64) this;rwa [Nat.mul_div_cancel _ eV] at this
 rw [ho1] at h1 hlo;rw [hhi] at h2 hhl;have HC3:Hid (((cI rb s).setIfInBounds 1 (.int .i64 ((aW (s.take [x.b]).ks).length:Int)))=#[↑(π rb),.int .i64 ((aW (s.take [x.b]).ks).length:Int),↑(tot (s.take [x.b]).ks / M64 + br:Nat),↑(tot s.ks % M64:Nat),.bool s.mixed,↑s.reorder,↑s.next,↑s.top,.bool s.topped]):=lh (by rw [← hhi];rfl);have HLC:Hid ((((cI rb s).setIfInBounds 1 (.int .i64 ((aW (s.take [x.b]).ks).length:Int))).setIfInBounds 3 ↑(tot (s.take [x.b]).ks % M64:Nat)).setIfInBounds 2 ↑(tot (s.take [x.b]).ks / M64:Nat)=cI rb (s.take [x.b])):=lh (by
  simp [cI];exact ⟨rfl,rfl,rfl,rfl,rfl⟩)
 have HTL:Hid (∀w' L,Fr w w' (b :: x.b :: L)→(∀y∈L,∃T cs,Blk w y T cs∧T≠208∧T≠254∧T≠177)→Blk w' b 156 (cI rb (s.take [x.b]))→Blk w' x.b 208 (Kp.cells x.p true)→LAt w' b rb g (s.take [x.b])):=
  lh (fun w' L k hL hb hk=>FA HH.out HS.out HX.out k hL hb hk)
 clear ho1 hhi HH HS HX E1 E2 HDiv;generalize es:s.take [x.b]=s' at hlo h1 h2 hhl HLC HTL hsub HC3;have ES:=lh es.symm;clear es;generalize (aW s.ks).length=o0 at *;generalize tot s.ks / M64=hi0 at *;generalize tot s.ks % M64=lo at *;generalize (aW s'.ks).length=o at *;generalize tot s'.ks / M64=hi at *;generalize tot s'.ks % M64=lo' at *;go_enter func159,ntmps159;go_wp2_with fail;have hsz:w.heap.size≤((w.setCell ⟨x.b,7,none⟩ (.bool true)).setCell ⟨b,1,none⟩ (.int .i64 (o:Int))).heap.size:=by simp [World.setCell]
 have B2:=lh ((HHd.out.set_other 7 (.bool true) hbx).set 1 (.int .i64 (o:Int)));have K2:=lh ((HK.out.set 7 (.bool true)).set_other (c:=b) 1 (.int .i64 (o:Int)) hbx');have F2:=lh (((Fr.refl w (b :: x.b :: [])).set (c:=x.b) (.inl (by simp)) 7 (.bool true)).set (c:=b) (.inl (by simp)) 1 (.int .i64 (o:Int)));have L2:=lh ((HL.out.set_other 7 (.bool true) lne1).set_other 1 (.int .i64 (o:Int)) lne2);generalize ((w.setCell ⟨x.b,7,none⟩ (.bool true)).setCell ⟨b,1,none⟩ (.int .i64 (o:Int)))=w2 at *;clear l0 h1 h2 h3 f1 f2 f3 k1 k7 g7;have l0:=L2.out.drew.cell (i:=0) (v:=↑(π b)) rfl;have h3:w2.drew.cell? ⟨b,3,none⟩=some ↑lo:=B2.out.drew.cell (i:=3) (by rw [HC3.out];rfl);have f3:=B2.out.drew.free 3;have k1:w2.drew.cell? ⟨x.b,1,none⟩=some ↑x.p.size:=K2.out.drew.cell (i:=1) rfl;go_region
 have lne1':bt≠x.b:=HT.out.ty HK.out (by decide);have lne2':bt≠b:=HT.out.ty HHd.out (by decide);have ane1:av≠x.b:=HA.out.ty HK.out (by decide);have ane2:av≠b:=HA.out.ty HHd.out (by decide);have B3:=lh ((B2.out.set 3 ↑lo').drew);have K3:=lh ((K2.out.set_other 3 ↑lo' hbx').drew);have F3:=lh ((F2.out.set (c:=b) (.inl (by simp)) 3 ↑lo').drawn (aB.drew _));clear l0 h3 f3 k1;generalize (w2.setCell ⟨b,3,none⟩ ↑lo').drew=w3 at *;have l0:=(HL.out.fr F3.out (by simp [lne1,lne2])).cell (i:=0) (v:=↑(π b)) rfl;have h2:w3.cell? ⟨b,2,none⟩=some ↑(hi + br:Nat):=B3.out.cell (i:=2) (by rw [HC3.out];rfl);have f2:=B3.out.free 2;go_wp2_with fail;have B4:=lh (B3.out.set 2 ↑hi);rw [HLC.out] at B4;have K4:=lh (K3.out.set_other 2 ↑hi hbx');have F4:=lh (F3.out.set (c:=b) (.inl (by simp)) 2 ↑hi);clear l0 h2 f2 B2 K2 F2 B3 K3 F3 L2;generalize (w3.setCell ⟨b,2,none⟩ ↑hi)=w4 at *;obtain ⟨pv0,cv,rfl⟩:=HV.out.form;obtain ⟨i0,hi0',hz0,hz1,hz2⟩:=info_parts wV;have HI:=lh hi0';have HZ0:=lh hz0;have HZ1:=lh hz1;have HZ2:=lh hz2;clear hi0' hz0 hz1 hz2;have hvb:∀k,(Value.slice pv0 l.length cv).ownBlock=some k→k≠b∧k≠x.b∧k≠av∧k≠bt∧k < w.heap.size:=fun k e=>by
  obtain ⟨cs,hc⟩:=HV.out.blk e;exact ⟨hc.ty HHd.out (by decide),hc.ty HK.out (by decide),hc.ty HA.out (by decide),hc.ty HT.out (by decide),hc.lt⟩
 have V4:=lh (HV.out.fr F4.out (fun k e=>by obtain ⟨a1,a2,_⟩:=hvb k e;simp [a1,a2]));have A4:=lh (HA.out.fr F4.out (by simp [ane1,ane2]));have T4:=lh (HT.out.fr F4.out (by simp [lne1',lne2']));have HVb:=lh hvb;clear hvb;have hs4:↑w≤w4.heap.size:=F4.out.size;have t0:=T4.out.drew.cell (i:=0) (v:=↑(π av)) rfl;have a0:=A4.out.drew.cell (i:=0) (v:=.slice pv0 l.length cv) rfl;have fa:=A4.out.drew.free 0;obtain ⟨q0,q1,q2,q3,q4,q5,q6,_⟩:=fH (p:=x.p) (gn:=true) (show Blk w4.drew x.b 208 (Kp.cells x.p true) from K4.out);have HOw:Hid ((w4.alloc (.cells #[↑x.p.n,↑x.p.size,↑x.p.sent,↑x.p.first,↑x.p.deliv,↑x.p.at_,.bool x.p.lim] 73)).drew.ownsRow 0 73 7 (.slice pv0 l.length cv) l.length (pcs l)):=
  lh ((V4.out.keep ((Below.refl _ _).alloc (Nat.le_refl _) _)).drawn (aB.drew _))
 have HNw:Hid (Blk (w4.alloc (.cells #[↑x.p.n,↑x.p.size,↑x.p.sent,↑x.p.first,↑x.p.deliv,↑x.p.at_,.bool x.p.lim] 73)).drew w4.heap.size 73 #[↑x.p.n,↑x.p.size,↑x.p.sent,↑x.p.first,↑x.p.deliv,↑x.p.at_,.bool x.p.lim]):=lh (Blk.new _ _ _).drew;have HOne:Hid (∀u∈[↑x.p.n,↑x.p.size,↑x.p.sent,↑x.p.first,↑x.p.deliv,↑x.p.at_,Value.bool x.p.lim],u.oneCell'=true):=lh (Itm.one x.p);have t1:(w4.alloc (.cells #[↑x.p.n,↑x.p.size,↑x.p.sent,↑x.p.first,↑x.p.deliv,↑x.p.at_,.bool x.p.lim] 73)).cell? ⟨bt,0,none⟩=some ↑(π av):=aQ (w:=w4) t0 _;have a1:(w4.alloc (.cells #[↑x.p.n,↑x.p.size,↑x.p.sent,↑x.p.first,↑x.p.deliv,↑x.p.at_,.bool x.p.lim] 73)).cell? ⟨av,0,none⟩=some (.slice pv0 l.length cv):=aQ (w:=w4) a0 _;have HT1:=lh t1;have HA1:=lh a1;have HFa:Hid ((w4.alloc (.cells #[↑x.p.n,↑x.p.size,↑x.p.sent,↑x.p.first,↑x.p.deliv,↑x.p.at_,.bool x.p.lim] 73)).frozen? ⟨av,0,none⟩=false):=lh ((A4.out.alloc _).free 0);have HNt:Hid (some bt≠(Value.slice pv0 l.length cv).ownBlock):=lh (fun e=>(HVb.out bt e.symm).2.2.2.1 rfl);have HNa:Hid (some av≠(Value.slice pv0 l.length cv).ownBlock):=lh (fun e=>(HVb.out av e.symm).2.2.1 rfl);go_region_law ((refine step_append_lies _ (by rfl) _ _ _ (by rfl) 0 73 i0 (.agg #[↑ζ,↑ζ,↑ζ,↑ζ,↑ζ,↑ζ,.bool false]) 7 56 underlying67 HI.out HZ0.out HZ1.out HZ2.out rfl (by decide) _ l.length (pcs l) (by rfl) HOw.out ⟨w4.heap.size,0,none⟩ 1 1 [↑x.p.n,↑x.p.size,↑x.p.sent,↑x.p.first,↑x.p.deliv,↑x.p.at_,.bool x.p.lim] (by rfl) (by rfl) (World.news_of_block HNw.out) HOne.out (by decide) (by unfold maxLen;omega) (by omega) (Nat.zero_le _) (w4.heap.size + 1) (by simp) ?_;intro g0 cap w5 hown hgrow hat hltg;have HOn:=lh hown;have HGr:=lh hgrow;have HAt:=lh hat;clear hown hgrow hat;have u0:=(HGr.out.cell_far ⟨bt,0,none⟩ (World.block_lt_of_cell? _ _ HT1.out) HNt.out).trans HT1.out;have u1:=(HGr.out.cell_far ⟨av,0,none⟩ (World.block_lt_of_cell? _ _ HA1.out) HNa.out).trans HA1.out;have u2:=(HGr.out.frozen_far ⟨av,0,none⟩ (World.block_lt_of_cell? _ _ HA1.out) HNa.out).trans HFa.out))
 all_goals
  have PE:=FB ES.out HTL.out F4.out B4.out K4.out A4.out HA.out HV.out ane1 ane2 (fun k e=>by obtain ⟨a1,a2,a3,_,a5⟩:=HVb.out k e;exact ⟨a1,a2,a3,a5⟩) HGr.out HOn.out HAt.out;go_end0
  exact PE
end Go.Proofs.YtjhiooggnpbecaaGreatDoor
