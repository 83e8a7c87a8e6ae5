/- 8 texts put together: what each one says stands ahead of it. -/
import Derived.Test.YteoepabmnbkabaaGreatDoorKS33
import Derived.Deep.RegionLaw
import Derived.Deep.AppendLies
import Derived.Deep.RegionHeld3
import Derived.StillTailTactics
import Derived.BigRegion
import Derived.Test.YteoepabmnbkabaaGreatDoorKS09
import Derived.RangeFuncBox
import Derived.RangeFuncLeaves
import Derived.IntWalk
set_option linter.unusedVariables false
namespace Go.Proofs.YteoepabmnbkabaaGreatDoor
open Go.RowKit
def tw1 (w:World) (b av:Nat):World:=(w.alloc (.cells #[.pointer (some ⟨b,0,none⟩)] 64)).alloc (.cells #[.pointer (some ⟨av,0,none⟩)] 197)
def tfn (w:World):Value:=.func (.func 197) #[] #[.pointer (some ⟨w.heap.size,0,none⟩),.pointer (some ⟨w.heap.size + 1,0,none⟩)]
theorem taker_any (b av:Nat) (w:World):
  Calls Tryz.prog 126 #[.pointer (some ⟨b,0,none⟩),.pointer (some ⟨av,0,none⟩)] w fun e w'=>e=.returned (tfn w)∧w'=tw1 w b av:=by
 go_enter Tryz.func126,Tryz.ntmps126
 go_wp2
 go_ret
 exact ⟨rfl,rfl⟩
theorem tw1_below (w:World) (b av:Nat):Below w.heap.size w (tw1 w b av):=((Below.refl _ _).alloc (Nat.le_refl _) _).alloc (by simp) _
theorem tw1_l (w:World) (b av:Nat):Blk (tw1 w b av) w.heap.size 64 #[.pointer (some ⟨b,0,none⟩)]:=(Blk.new _ _ _).alloc _
theorem tw1_t (w:World) (b av:Nat):Blk (tw1 w b av) (w.heap.size + 1) 197 #[.pointer (some ⟨av,0,none⟩)]:=Blk.new1 _ _ _ _
structure TakePost (w:World) (b rb g av:Nat) (x:Kp) (s:LS) (v:Value) (l:List Pk) (e:Ending) (w':World):Prop where
 e:e=.returned (.tuple #[])
 led:LAt w' b rb g (s.take [x.b])
 out:∃v',Blk w' av 42 #[v']∧PR w' v' (l ++ [x.p])∧(∀k,v'.ownBlock=some k→v.ownBlock=some k∨w.heap.size≤k)
 fr:Fr w w' (b :: x.b :: av :: v.ownBlock.toList)
theorem take_led {w w':World} {b rb g:Nat} {s:LS} {x:Kp} {L:List Nat} (h:LAt w b rb g s) (hs:s.ok) (hx:x∈s.ks) (k:Fr w w' (b :: x.b :: L)) (hL:∀y∈L,∃T cs,Blk w y T cs∧T≠203∧T≠231∧T≠138)
  (hb:Blk w' b 140 (lcells rb (s.take [x.b]))) (hk:Blk w' x.b 203 (Kp.cells x.p true)):LAt w' b rb g (s.take [x.b]):=by
 have nL:∀{y T cs},Blk w y T cs→(T=203∨T=231∨T=138)→y ∉ L:=fun {y T cs} hy hT hm=>by
  obtain ⟨T',cs',h1,h2,h3,h4⟩:=hL y hm
  refine hy.ty h1 ?_ rfl
  rcases hT with rfl | rfl | rfl
  ·exact Ne.symm h2
  ·exact Ne.symm h3
  ·exact Ne.symm h4
 obtain ⟨c1,hc1⟩:=h.row.head
 obtain ⟨c2,hc2⟩:=h.row.body
 refine ⟨hb,?_,fun y hy=>?_⟩
 ·have e:itemsK (s.take [x.b]).ks=itemsK s.ks:=by
   have:=congrArg (List.map (· + 1)) (markK_b [x.b] s.ks)
   rw [List.map_map,List.map_map] at this
   exact this
  rw [e]
  refine h.row.fr k ?_ ?_
  ·have a1:=hc1.ty h.head (by decide)
   have a2:=hc1.ty (h.kept x hx) (by decide)
   have a3:=nL hc1 (.inr (.inl rfl))
   simp [a1,a2,a3]
  ·have a1:=hc2.ty h.head (by decide)
   have a2:=hc2.ty (h.kept x hx) (by decide)
   have a3:=nL hc2 (.inr (.inr rfl))
   simp [a1,a2,a3]
 ·obtain ⟨z,hz,e1,e2,e3⟩:=markK_mem hy
  by_cases c:z.b=x.b
  ·obtain rfl:z=x:=by
    obtain ⟨i,hi,ei⟩:=List.mem_iff_getElem.1 hz
    obtain ⟨j,hj,ej⟩:=List.mem_iff_getElem.1 hx
    have hn:=hs.nodup
    have key:∀{p q:Nat} (hp:p < s.ks.length) (hq:q < s.ks.length),p < q→s.ks[p].b≠s.ks[q].b:=fun {p q} hp hq hpq=>by
     have:=List.pairwise_iff_getElem.1 hn p q (by rw [List.length_map];exact hp) (by rw [List.length_map];exact hq) hpq
     rwa [List.getElem_map,List.getElem_map] at this
    rcases Nat.lt_trichotomy i j with d | d | d
    ·exact absurd (by rw [ei,ej];exact c) (key hi hj d)
    ·subst d;rw [← ei,← ej]
    ·exact absurd (by rw [ei,ej];exact c.symm) (key hj hi d)
   rw [← e1,← e2,e3]
   have:(z.gone || decide (z.b∈[z.b]))=true:=by simp
   rw [this];exact hk
  ·rw [← e1,← e2,e3]
   have:(z.gone || decide (z.b∈[x.b]))=z.gone:=by simp [c]
   rw [this]
   have hzk:=h.kept z hz
   refine hzk.fr k ?_
   have a1:=hzk.ty h.head (by decide)
   have a3:=nL hzk (.inl rfl)
   simp [a1,a3,c]
theorem take_end {w w4 w5:World} {b rb g av g0 cap cv:Nat} {pv0:Option Addr} {x:Kp} {s s':LS} {l:List Pk} {o:Obj} (es:s'=s.take [x.b])
  (HTL:∀w' L,Fr w w' (b :: x.b :: L)→(∀y∈L,∃T cs,Blk w y T cs∧T≠203∧T≠231∧T≠138)→Blk w' b 140 (lcells rb s')→Blk w' x.b 203 (Kp.cells x.p true)→LAt w' b rb g s')
  (F4:Fr w w4 [b,x.b]) (B4:Blk w4 b 140 (lcells rb s')) (K4:Blk w4 x.b 203 (Kp.cells x.p true)) (A4:Blk w4 av 42 #[.slice pv0 l.length cv]) (HA:Blk w av 42 #[.slice pv0 l.length cv])
  (HV:PR w (.slice pv0 l.length cv) l) (ane1:av≠x.b) (ane2:av≠b) (HVb:∀k,(Value.slice pv0 l.length cv).ownBlock=some k→k≠b∧k≠x.b∧k≠av∧k < w.heap.size)
  (HGr:(w4.alloc o).drew.grownBy w5 (Value.slice pv0 l.length cv).ownBlock) (HOn:w5.ownsRow 0 47 7 (.slice (some ⟨g0,0,none⟩) (l.length + 1) cap) (l.length + 1) (pcs l ++ pcs [x.p])) (HAt:(Value.slice pv0 l.length cv).ownBlock=some g0∨g0=w4.heap.size + 1):
  TakePost w b rb g av x s (.slice pv0 l.length cv) l (.returned (.tuple #[])) (w5.setCell ⟨av,0,none⟩ (.slice (some ⟨g0,0,none⟩) (l.length + 1) cap)):=by
 subst es
 have hs4:=F4.size
 have g5:Fr (w4.alloc o).drew w5 (Value.slice pv0 l.length cv).ownBlock.toList:=⟨HGr.os,HGr.tape,HGr.output,HGr.size,fun k hk hl=>HGr.block k hk (fun e=>hl (by rw [← e];simp))⟩
 have f5:Fr w w5 (b :: x.b :: av :: (Value.slice pv0 l.length cv).ownBlock.toList):=
  (((F4.alloc o).drawn (Drawn.drew _)).mono (l':=b :: x.b :: av :: (Value.slice pv0 l.length cv).ownBlock.toList) (fun y hy=>.inl (by simp at hy;rcases hy with rfl | rfl <;> simp))).trans g5 (fun y hy=>.inl (by simp only [List.mem_cons];exact .inr (.inr (.inr hy))))
 have f6:=f5.set (c:=av) (.inl (by simp)) 0 (.slice (some ⟨g0,0,none⟩) (l.length + 1) cap)
 have nb:some b≠(Value.slice pv0 l.length cv).ownBlock:=fun e=>(HVb b e.symm).1 rfl
 have nk:some x.b≠(Value.slice pv0 l.length cv).ownBlock:=fun e=>(HVb x.b e.symm).2.1 rfl
 have na:some av≠(Value.slice pv0 l.length cv).ownBlock:=fun e=>(HVb av e.symm).2.2.1 rfl
 have b6:=(((B4.alloc o).drew).grown HGr nb).set_other 0 (.slice (some ⟨g0,0,none⟩) (l.length + 1) cap) (Ne.symm ane2)
 have k6:=(((K4.alloc o).drew).grown HGr nk).set_other 0 (.slice (some ⟨g0,0,none⟩) (l.length + 1) cap) (Ne.symm ane1)
 have a6:=(((A4.alloc o).drew).grown HGr na).set 0 (.slice (some ⟨g0,0,none⟩) (l.length + 1) cap)
 have hga:g0≠av:=by
  rcases HAt with e | e
  ·exact (HVb g0 e).2.2.1
  ·have:=HA.lt;omega
 have hv:PR w5 (.slice (some ⟨g0,0,none⟩) (l.length + 1) cap) (l ++ [x.p]):=PR.app rfl HOn
 refine ⟨rfl,HTL _ (av :: (Value.slice pv0 l.length cv).ownBlock.toList) f6 ?_ b6 k6,⟨_,a6,hv.same fun k cs e _=>Below.heap_setCell _ _ _ _ ?_,fun k e=>?_⟩,f6⟩
 ·intro y hy
  rcases List.mem_cons.1 hy with rfl | hy
  ·exact ⟨_,_,HA,by decide,by decide,by decide⟩
  ·have:(Value.slice pv0 l.length cv).ownBlock=some y:=by
    cases h:(Value.slice pv0 l.length cv).ownBlock with
    | none=>rw [h] at hy;cases hy
    | some z=>rw [h] at hy;simp at hy;rw [hy]
   obtain ⟨cs,hc⟩:=HV.blk this
   exact ⟨_,cs,hc,by decide,by decide,by decide⟩
 ·simp [Value.ownBlock] at e;show k≠av;rw [← e];exact hga
 ·simp [Value.ownBlock] at e
  subst e
  rcases HAt with h | h
  ·exact .inl h
  ·right;omega
set_option maxRecDepth 100000 in
set_option maxHeartbeats 2000000 in
theorem take_any (b rb g bl bt av:Nat) (x:Kp) (s:LS) (v:Value) (l:List Pk) (w:World) (h:LAt w b rb g s) (hs:s.ok) (hx:x∈s.ks) (hg:x.gone=false)
  (hl:Blk w bl 64 #[.pointer (some ⟨b,0,none⟩)]) (ht:Blk w bt 197 #[.pointer (some ⟨av,0,none⟩)]) (ha:Blk w av 42 #[v]) (hv:PR w v l) (hll:l.length≤7000):
  Calls Tryz.prog 197 #[.pointer (some ⟨x.b,0,none⟩),.pointer (some ⟨bl,0,none⟩),.pointer (some ⟨bt,0,none⟩)] w (TakePost w b rb g av x s v l):=by
 obtain ⟨e1,e2⟩:=take_one hs hx hg
 obtain ⟨br,hbr,hdiv,hsub⟩:=sub64_tot (tot (s.take [x.b]).ks) x.p.size (hs.pk x hx).lt
 rw [e2] at hdiv hsub
 have HK:=Lib.hid (h.kept x hx)
 rw [hg] at HK
 have HHd:=Lib.hid h.head
 have hbx:b≠x.b:=HHd.out.ty HK.out (by decide)
 have l0:=hl.cell (i:=0) rfl
 have lne1:bl≠x.b:=hl.ty HK.out (by decide)
 have lne2:bl≠b:=hl.ty HHd.out (by decide)
 have h1:=HHd.out.cell (i:=1) (v:=.int .i64 ((outK s.ks).length:Int)) rfl
 have h2:=HHd.out.cell (i:=2) (v:=.int .u64 ((tot s.ks / M64:Nat):Int)) rfl
 have h3:=HHd.out.cell (i:=3) (v:=.int .u64 ((tot s.ks % M64:Nat):Int)) rfl
 have f1:=HHd.out.free 1
 have f2:=HHd.out.free 2
 have f3:=HHd.out.free 3
 have k1:=(kcell HK.out).2.1
 have k7:=(kcell HK.out).2.2.2.2.2.2.2
 have g7:=HK.out.free 7
 have hlo:=LS.out_le hs
 have HH:=Lib.hid h
 have HS:=Lib.hid hs
 have HX:=Lib.hid hx
 have HL:=Lib.hid hl
 have HT:=Lib.hid ht
 have HA:=Lib.hid ha
 have HV:=Lib.hid hv
 have E1:=Lib.hid e1
 have E2:=Lib.hid e2
 have HDiv:=Lib.hid hdiv
 clear h hs hx hg hl ht ha hv e1 e2 hdiv
 have hbx':x.b≠b:=Ne.symm hbx
 have ho1:(outK s.ks).length=(outK (s.take [x.b]).ks).length + 1:=E1.out.symm
 have hhi:tot s.ks / M64=tot (s.take [x.b]).ks / M64 + br:=HDiv.out
 have hhl:tot s.ks / M64≤6000:=by
  have:=LS.tot_le HS.out
  have:=Nat.div_le_div_right (c:=M64) this
  rwa [Nat.mul_div_cancel _ M64_pos] at this
 rw [ho1] at h1 hlo
 rw [hhi] at h2 hhl
 have HC3:Hid (((lcells rb s).setIfInBounds 1 (.int .i64 ((outK (s.take [x.b]).ks).length:Int)))=#[.pointer (some ⟨rb,0,none⟩),.int .i64 ((outK (s.take [x.b]).ks).length:Int),.int .u64 ((tot (s.take [x.b]).ks / M64 + br:Nat):Int),.int .u64 ((tot s.ks % M64:Nat):Int),.bool s.mixed,.int .u64 (s.reorder:Int),.int .u64 (s.next:Int),.int .u64 (s.top:Int),.bool s.topped]):=Lib.hid (by rw [← hhi];rfl)
 have HLC:Hid ((((lcells rb s).setIfInBounds 1 (.int .i64 ((outK (s.take [x.b]).ks).length:Int))).setIfInBounds 3 (.int .u64 ((tot (s.take [x.b]).ks % M64:Nat):Int))).setIfInBounds 2 (.int .u64 ((tot (s.take [x.b]).ks / M64:Nat):Int))=lcells rb (s.take [x.b])):=Lib.hid (by
  simp [lcells];exact ⟨rfl,rfl,rfl,rfl,rfl⟩)
 have HTL:Hid (∀w' L,Fr w w' (b :: x.b :: L)→(∀y∈L,∃T cs,Blk w y T cs∧T≠203∧T≠231∧T≠138)→Blk w' b 140 (lcells rb (s.take [x.b]))→Blk w' x.b 203 (Kp.cells x.p true)→LAt w' b rb g (s.take [x.b])):=
  Lib.hid (fun w' L k hL hb hk=>take_led HH.out HS.out HX.out k hL hb hk)
 clear ho1 hhi HH HS HX E1 E2 HDiv
 generalize es:s.take [x.b]=s' at hlo h1 h2 hhl HLC HTL hsub HC3
 have ES:=Lib.hid es.symm
 clear es
 generalize (outK s.ks).length=o0 at *
 generalize tot s.ks / M64=hi0 at *
 generalize tot s.ks % M64=lo at *
 generalize (outK s'.ks).length=o at *
 generalize tot s'.ks / M64=hi at *
 generalize tot s'.ks % M64=lo' at *
 go_enter Tryz.func197,Tryz.ntmps197
 go_wp2_with fail
 have hsz:w.heap.size≤((w.setCell ⟨x.b,7,none⟩ (.bool true)).setCell ⟨b,1,none⟩ (.int .i64 (o:Int))).heap.size:=by simp [World.setCell]
 have B2:=Lib.hid ((HHd.out.set_other 7 (.bool true) hbx).set 1 (.int .i64 (o:Int)))
 have K2:=Lib.hid ((HK.out.set 7 (.bool true)).set_other (c:=b) 1 (.int .i64 (o:Int)) hbx')
 have F2:=Lib.hid (((Fr.refl w (b :: x.b :: [])).set (c:=x.b) (.inl (by simp)) 7 (.bool true)).set (c:=b) (.inl (by simp)) 1 (.int .i64 (o:Int)))
 have L2:=Lib.hid ((HL.out.set_other 7 (.bool true) lne1).set_other 1 (.int .i64 (o:Int)) lne2)
 generalize ((w.setCell ⟨x.b,7,none⟩ (.bool true)).setCell ⟨b,1,none⟩ (.int .i64 (o:Int)))=w2 at *
 clear l0 h1 h2 h3 f1 f2 f3 k1 k7 g7
 have l0:=L2.out.drew.cell (i:=0) (v:=.pointer (some ⟨b,0,none⟩)) rfl
 have h3:w2.drew.cell? ⟨b,3,none⟩=some (.int .u64 (lo:Int)):=B2.out.drew.cell (i:=3) (by rw [HC3.out];rfl)
 have f3:=B2.out.drew.free 3
 have k1:w2.drew.cell? ⟨x.b,1,none⟩=some (.int .u64 (x.p.size:Int)):=K2.out.drew.cell (i:=1) rfl
 go_region
 have lne1':bt≠x.b:=HT.out.ty HK.out (by decide)
 have lne2':bt≠b:=HT.out.ty HHd.out (by decide)
 have ane1:av≠x.b:=HA.out.ty HK.out (by decide)
 have ane2:av≠b:=HA.out.ty HHd.out (by decide)
 have B3:=Lib.hid ((B2.out.set 3 (.int .u64 (lo':Int))).drew)
 have K3:=Lib.hid ((K2.out.set_other 3 (.int .u64 (lo':Int)) hbx').drew)
 have F3:=Lib.hid ((F2.out.set (c:=b) (.inl (by simp)) 3 (.int .u64 (lo':Int))).drawn (Drawn.drew _))
 clear l0 h3 f3 k1
 generalize (w2.setCell ⟨b,3,none⟩ (.int .u64 (lo':Int))).drew=w3 at *
 have l0:=(HL.out.fr F3.out (by simp [lne1,lne2])).cell (i:=0) (v:=.pointer (some ⟨b,0,none⟩)) rfl
 have h2:w3.cell? ⟨b,2,none⟩=some (.int .u64 ((hi + br:Nat):Int)):=B3.out.cell (i:=2) (by rw [HC3.out];rfl)
 have f2:=B3.out.free 2
 go_wp2_with fail
 have B4:=Lib.hid (B3.out.set 2 (.int .u64 (hi:Int)))
 rw [HLC.out] at B4
 have K4:=Lib.hid (K3.out.set_other 2 (.int .u64 (hi:Int)) hbx')
 have F4:=Lib.hid (F3.out.set (c:=b) (.inl (by simp)) 2 (.int .u64 (hi:Int)))
 clear l0 h2 f2 B2 K2 F2 B3 K3 F3 L2
 generalize (w3.setCell ⟨b,2,none⟩ (.int .u64 (hi:Int)))=w4 at *
 obtain ⟨pv0,cv,rfl⟩:=HV.out.form
 obtain ⟨i0,hi0',hz0,hz1,hz2⟩:=info_parts pk_info
 have HI:=Lib.hid hi0'
 have HZ0:=Lib.hid hz0
 have HZ1:=Lib.hid hz1
 have HZ2:=Lib.hid hz2
 clear hi0' hz0 hz1 hz2
 have hvb:∀k,(Value.slice pv0 l.length cv).ownBlock=some k→k≠b∧k≠x.b∧k≠av∧k≠bt∧k < w.heap.size:=fun k e=>by
  obtain ⟨cs,hc⟩:=HV.out.blk e
  exact ⟨hc.ty HHd.out (by decide),hc.ty HK.out (by decide),hc.ty HA.out (by decide),hc.ty HT.out (by decide),hc.lt⟩
 have V4:=Lib.hid (HV.out.fr F4.out (fun k e=>by obtain ⟨a1,a2,_⟩:=hvb k e;simp [a1,a2]))
 have A4:=Lib.hid (HA.out.fr F4.out (by simp [ane1,ane2]))
 have T4:=Lib.hid (HT.out.fr F4.out (by simp [lne1',lne2']))
 have HVb:=Lib.hid hvb
 clear hvb
 have hs4:w.heap.size≤w4.heap.size:=F4.out.size
 have t0:=T4.out.drew.cell (i:=0) (v:=.pointer (some ⟨av,0,none⟩)) rfl
 have a0:=A4.out.drew.cell (i:=0) (v:=.slice pv0 l.length cv) rfl
 have fa:=A4.out.drew.free 0
 obtain ⟨q0,q1,q2,q3,q4,q5,q6,_⟩:=kcell (p:=x.p) (gn:=true) (show Blk w4.drew x.b 203 (Kp.cells x.p true) from K4.out)
 have HOw:Hid ((w4.alloc (.cells #[.int .u64 (x.p.n:Int),.int .u64 (x.p.size:Int),.int .u64 (x.p.sent:Int),.int .u64 (x.p.first:Int),.int .u64 (x.p.deliv:Int),.int .u64 (x.p.at_:Int),.bool x.p.lim] 47)).drew.ownsRow 0 47 7 (.slice pv0 l.length cv) l.length (pcs l)):=
  Lib.hid ((V4.out.keep ((Below.refl _ _).alloc (Nat.le_refl _) _)).drawn (Drawn.drew _))
 have HNw:Hid (Blk (w4.alloc (.cells #[.int .u64 (x.p.n:Int),.int .u64 (x.p.size:Int),.int .u64 (x.p.sent:Int),.int .u64 (x.p.first:Int),.int .u64 (x.p.deliv:Int),.int .u64 (x.p.at_:Int),.bool x.p.lim] 47)).drew w4.heap.size 47 #[.int .u64 (x.p.n:Int),.int .u64 (x.p.size:Int),.int .u64 (x.p.sent:Int),.int .u64 (x.p.first:Int),.int .u64 (x.p.deliv:Int),.int .u64 (x.p.at_:Int),.bool x.p.lim]):=Lib.hid (Blk.new _ _ _).drew
 have HOne:Hid (∀u∈[.int .u64 (x.p.n:Int),.int .u64 (x.p.size:Int),.int .u64 (x.p.sent:Int),.int .u64 (x.p.first:Int),.int .u64 (x.p.deliv:Int),.int .u64 (x.p.at_:Int),Value.bool x.p.lim],u.oneCell'=true):=Lib.hid (Itm.one x.p)
 have t1:(w4.alloc (.cells #[.int .u64 (x.p.n:Int),.int .u64 (x.p.size:Int),.int .u64 (x.p.sent:Int),.int .u64 (x.p.first:Int),.int .u64 (x.p.deliv:Int),.int .u64 (x.p.at_:Int),.bool x.p.lim] 47)).cell? ⟨bt,0,none⟩=some (.pointer (some ⟨av,0,none⟩)):=cell_al (w:=w4) t0 _
 have a1:(w4.alloc (.cells #[.int .u64 (x.p.n:Int),.int .u64 (x.p.size:Int),.int .u64 (x.p.sent:Int),.int .u64 (x.p.first:Int),.int .u64 (x.p.deliv:Int),.int .u64 (x.p.at_:Int),.bool x.p.lim] 47)).cell? ⟨av,0,none⟩=some (.slice pv0 l.length cv):=cell_al (w:=w4) a0 _
 have HT1:=Lib.hid t1
 have HA1:=Lib.hid a1
 have HFa:Hid ((w4.alloc (.cells #[.int .u64 (x.p.n:Int),.int .u64 (x.p.size:Int),.int .u64 (x.p.sent:Int),.int .u64 (x.p.first:Int),.int .u64 (x.p.deliv:Int),.int .u64 (x.p.at_:Int),.bool x.p.lim] 47)).frozen? ⟨av,0,none⟩=false):=Lib.hid ((A4.out.alloc _).free 0)
 have HNt:Hid (some bt≠(Value.slice pv0 l.length cv).ownBlock):=Lib.hid (fun e=>(HVb.out bt e.symm).2.2.2.1 rfl)
 have HNa:Hid (some av≠(Value.slice pv0 l.length cv).ownBlock):=Lib.hid (fun e=>(HVb.out av e.symm).2.2.1 rfl)
 go_region_law ((refine step_append_lies _ (by rfl) _ _ _ (by rfl) 0 47 i0 (.agg #[.int .u64 0,.int .u64 0,.int .u64 0,.int .u64 0,.int .u64 0,.int .u64 0,.bool false]) 7 56 Tryz.underlying42 HI.out HZ0.out HZ1.out HZ2.out rfl (by decide) _ l.length (pcs l) (by rfl) HOw.out ⟨w4.heap.size,0,none⟩ 1 1 [.int .u64 (x.p.n:Int),.int .u64 (x.p.size:Int),.int .u64 (x.p.sent:Int),.int .u64 (x.p.first:Int),.int .u64 (x.p.deliv:Int),.int .u64 (x.p.at_:Int),.bool x.p.lim] (by rfl) (by rfl) (World.news_of_block HNw.out) HOne.out (by decide) (by unfold maxLen;omega) (by omega) (Nat.zero_le _) (w4.heap.size + 1) (by simp) ?_;intro g0 cap w5 hown hgrow hat hltg;have HOn:=Lib.hid hown;have HGr:=Lib.hid hgrow;have HAt:=Lib.hid hat;clear hown hgrow hat;have u0:=(HGr.out.cell_far ⟨bt,0,none⟩ (World.block_lt_of_cell? _ _ HT1.out) HNt.out).trans HT1.out;have u1:=(HGr.out.cell_far ⟨av,0,none⟩ (World.block_lt_of_cell? _ _ HA1.out) HNa.out).trans HA1.out;have u2:=(HGr.out.frozen_far ⟨av,0,none⟩ (World.block_lt_of_cell? _ _ HA1.out) HNa.out).trans HFa.out))
 all_goals
  have PE:=take_end ES.out HTL.out F4.out B4.out K4.out A4.out HA.out HV.out ane1 ane2 (fun k e=>by obtain ⟨a1,a2,a3,_,a5⟩:=HVb.out k e;exact ⟨a1,a2,a3,a5⟩) HGr.out HOn.out HAt.out
  go_end0
  exact PE
end Go.Proofs.YteoepabmnbkabaaGreatDoor

set_option linter.unusedVariables false
namespace Go.Proofs.YteoepabmnbkabaaGreatDoor
open Go.RowKit Pl
def passB (since time now:Nat):Bool:=decide (addS since time≤now)
theorem passed_any (since time now:Nat) (h1:since≤18446744073709551615) (h2:time≤18446744073709551615) (w:World):
  Calls Tryz.prog 169 #[.int .u64 (since:Int),.int .u64 (time:Int),.int .u64 (now:Int)] w fun e w'=>e=.returned (.bool (passB since time now))∧Below w.heap.size w w':=by
 have HA:=Lib.hid (fix_Add2_n w w.heap.size 2 since time rfl h1 h2)
 have hp:passB since time now=decide (addS since time≤now):=rfl
 rw [hp]
 clear hp h1 h2
 generalize addS since time=z at *
 go_enter Tryz.func169,Tryz.ntmps169
 go_wp2_with fail
 refine (HA.out).mono ?_
 rintro e w' ⟨rfl,rfl⟩
 go_wp2_with fail
 go_ret
 exact ⟨rfl,(Below.refl _ _).alloc (Nat.le_refl _) _⟩
theorem add_row (w:World) (a b:Nat):Row (w.alloc (.cells #[.int .u64 (a:Int),.int .u64 (b:Int)] 22)) w.heap.size 0 [a,b]:=by
 intro i hi
 have hb:=Blk.new w 22 #[.int .u64 (a:Int),.int .u64 (b:Int)]
 match i,hi with
 | 0,_=>exact hb.cell (i:=0) rfl
 | 1,_=>exact hb.cell (i:=1) rfl
theorem add_two {x0:Nat} (a b:Nat) (ha:a≤18446744073709551615) (hb:b≤18446744073709551615) (w:World) (hr:Row w x0 0 [a,b]):
  Calls Tryz.prog 57 #[.slice (some ⟨x0,0,none⟩) 2 2] w fun e w'=>e=.returned (.int .u64 ((addS a b:Nat):Int))∧w=w':=by
 have:=fix_Add x0 0 2 [a,b] w (by simp) (fun z hz=>by simp at hz;rcases hz with rfl | rfl <;> assumption) hr
 rw [sumS_two] at this
 exact this
def overB (s:LS) (p:Pk):Bool:=s.topped && decide (addS p.n s.reorder≤s.top)
set_option maxHeartbeats 1000000 in
theorem overtaken_any (b rb g:Nat) (x:Kp) (s:LS) (w:World) (h:LAt w b rb g s) (hs:s.ok) (gn:Bool) (hx:Blk w x.b 203 (Kp.cells x.p gn)) (hp:x.p.ok):
  Calls Tryz.prog 168 #[.pointer (some ⟨b,0,none⟩),.pointer (some ⟨x.b,0,none⟩)] w fun e w'=>e=.returned (.bool (overB s x.p))∧Below w.heap.size w w':=by
 have h5:=h.head.cell (i:=5) (v:=.int .u64 (s.reorder:Int)) rfl
 have h7:=h.head.cell (i:=7) (v:=.int .u64 (s.top:Int)) rfl
 have h8:=h.head.cell (i:=8) (v:=.bool s.topped) rfl
 have k0:=(kcell hx).1
 have hn:x.p.n≤18446744073709551615:=by have:=hp.n;omega
 have hr:=hs.reorder
 have HE:Hid (overB s x.p=(s.topped && decide (addS x.p.n s.reorder≤s.top))):=Lib.hid rfl
 have HAdd:=Lib.hid (add_two x.p.n s.reorder hn hr (w.alloc (.cells #[.int .u64 (x.p.n:Int),.int .u64 (s.reorder:Int)] 22)).drew (add_row w x.p.n s.reorder))
 clear h hs hx hp hn hr
 generalize x.p.n=n at *
 generalize s.reorder=r at *
 generalize s.top=t at *
 generalize overB s x.p=ov at *
 generalize addS n r=z at *
 cases ht:s.topped
 ·rw [ht] at h8 HE
  go_enter Tryz.func168,Tryz.ntmps168
  go_wp2_with fail
  go_quiet (fail)
  go_wp2_with fail
  go_ret
  exact ⟨by rw [HE.out];rfl,Drawn.below ⟨nq,rfl⟩ _⟩
 ·rw [ht] at h8 HE
  have H5:w.drew.cell? ⟨b,5,none⟩=some (.int .u64 (r:Int)):=h5
  have H7:w.drew.cell? ⟨b,7,none⟩=some (.int .u64 (t:Int)):=h7
  have H8:w.drew.cell? ⟨b,8,none⟩=some (.bool true):=h8
  have K0:w.drew.cell? ⟨x.b,0,none⟩=some (.int .u64 (n:Int)):=k0
  have G5:=Lib.hid h5
  have G7:=Lib.hid h7
  have G8:=Lib.hid h8
  have J0:=Lib.hid k0
  clear h5 h7 h8 k0
  go_enter Tryz.func168,Tryz.ntmps168
  go_wp2_with fail
  go_region_held3 (fun w'=>w'.cell? ⟨b,5,none⟩=some (.int .u64 (r:Int))∧w'.cell? ⟨b,7,none⟩=some (.int .u64 (t:Int))∧w'.cell? ⟨b,8,none⟩=some (.bool true)∧w'.cell? ⟨x.b,0,none⟩=some (.int .u64 (n:Int)))
   (first | exact ⟨H5,H7,H8,K0⟩ | exact ⟨cell_al (w:=w) G5.out _,cell_al (w:=w) G7.out _,cell_al (w:=w) G8.out _,cell_al (w:=w) J0.out _⟩)
   (first | (go_at_call 57;refine (HAdd.out).mono ?_;rintro e w' ⟨rfl,rfl⟩))
  go_wp2_with fail
  go_ret
  exact ⟨by rw [HE.out];rfl,(((Below.refl w.heap.size w).alloc (Nat.le_refl _) _).trans ((Drawn.drew _).below _))⟩
end Go.Proofs.YteoepabmnbkabaaGreatDoor

set_option linter.unusedVariables false
namespace Go.Proofs.YteoepabmnbkabaaGreatDoor
open Go.RowKit Go.Shelf
attribute [local go_sem] Oper.semAt_some
theorem kept_grown {W W':World} {row:Option Nat} (hg:W.grownBy W' row) (hr:∀r,row=some r→∃o:Obj,W.heap[r]? =some o∧o.isCells=false):∀x T cs,Blk W x T cs→W'.heap[x]? =W.heap[x]?:=fun x T cs hx=>
 hg.block x hx.lt (fun e=>by
  obtain ⟨o,ho,hc⟩:=hr x e.symm
  unfold Blk at hx
  rw [hx] at ho;cases ho;cases hc)
theorem kf_of_fr {B:Nat} {W W':World} {L:List Nat} (h:Fr W W' L) (hL:∀x∈L,W.heap.size≤x∨∃T cs,Blk W x T cs):KeepsFrom B W W':=⟨h.size,fun k o _ hk ho=>by
 have hlt:=(Array.getElem?_eq_some_iff.1 hk).1
 refine (h.block k hlt (fun hm=>?_)).trans hk
 rcases hL k hm with c | ⟨T,cs,hb⟩
 ·omega
 ·unfold Blk at hb
  rw [hb] at hk;cases hk;cases ho⟩
def blocksR (ks:List Kp) (b rb g bl br:Nat):List Nat:=bl :: br :: b :: rb :: g :: ks.map Kp.b
theorem RdR.keepX {ks:List Kp} {b rb g bl br fr to:Nat} {pre:List Kp} {W W':World} (h:RdR ks b rb g bl br fr to pre W) (k:∀x T cs,x∈blocksR ks b rb g bl br→Blk W x T cs→W'.heap[x]? =W.heap[x]?):RdR ks b rb g bl br fr to pre W':=by
 have mv:∀{x T cs},x∈blocksR ks b rb g bl br→Blk W x T cs→Blk W' x T cs:=fun {x T cs} hx hb=>by unfold Blk;rw [k x T cs hx hb];exact hb
 have mk:∀x∈ks,x.b∈blocksR ks b rb g bl br:=fun x hx=>by unfold blocksR;exact List.mem_cons_of_mem _ (List.mem_cons_of_mem _ (List.mem_cons_of_mem _ (List.mem_cons_of_mem _ (List.mem_cons_of_mem _ (List.mem_map_of_mem hx)))))
 obtain ⟨cs,h1,h2⟩:=h.rd.head
 refine ⟨mv (by simp [blocksR]) h.hl,mv (by simp [blocksR]) h.hr,⟨⟨cs,mv (by simp [blocksR]) h1,h2⟩,h.rd.row.blk2 fun x T cs hx hb=>k x T cs (by rcases hx with rfl | rfl <;> simp [blocksR]) hb,fun x hx=>?_⟩,fun x hx hp=>mv (mk x hx) (h.gone x hx hp)⟩
 obtain ⟨gn,hg⟩:=h.rd.kept x hx
 exact ⟨gn,mv (mk x hx) hg⟩
theorem RdR.below {ks:List Kp} {b rb g bl br fr to:Nat} {pre:List Kp} {W W':World} (h:RdR ks b rb g bl br fr to pre W) (k:Below W.heap.size W W'):RdR ks b rb g bl br fr to pre W':=h.keepX fun x T cs _ hb=>k.block x hb.lt
theorem RdR.fr {ks:List Kp} {b rb g bl br fr to:Nat} {pre:List Kp} {W W':World} {L:List Nat} (h:RdR ks b rb g bl br fr to pre W) (k:Fr W W' L) (hd:∀x∈blocksR ks b rb g bl br,x ∉ L):RdR ks b rb g bl br fr to pre W':=h.keepX fun x T cs hx hb=>k.block x hb.lt (hd x hx)
theorem RdR.more {ks:List Kp} {b rb g bl br fr to:Nat} {pre:List Kp} {W:World} (h:RdR ks b rb g bl br fr to pre W) (x:Kp):RdR ks b rb g bl br fr to (pre ++ [x]) W:=⟨h.hl,h.hr,h.rd,fun k hk hp=>h.gone k hk (fun hm=>hp (by rw [List.map_append];exact List.mem_append_left _ hm))⟩
theorem RdR.lt {ks:List Kp} {b rb g bl br fr to:Nat} {pre:List Kp} {W:World} (h:RdR ks b rb g bl br fr to pre W):∀x∈blocksR ks b rb g bl br,x < W.heap.size:=by
 intro x hx
 simp only [blocksR,List.mem_cons,List.mem_map] at hx
 obtain ⟨cs,h1,_⟩:=h.rd.head
 rcases hx with rfl | rfl | rfl | rfl | rfl | ⟨k,hk,rfl⟩
 ·exact h.hl.lt
 ·exact h.hr.lt
 ·exact h1.lt
 ·exact h.rd.row.lt.1
 ·exact h.rd.row.lt.2
 ·obtain ⟨gn,hg⟩:=h.rd.kept k hk;exact hg.lt
theorem LAt.rdr {w:World} {b rb g bl br fr to:Nat} {s:LS} (h:LAt w b rb g s) (hl:Blk w bl 64 #[.pointer (some ⟨b,0,none⟩)]) (hr:Blk w br 59 #[.int .u64 (fr:Int),.int .u64 (to:Int)]):RdR s.ks b rb g bl br fr to [] w:=
 ⟨hl,hr,h.rd,fun k hk _=>h.kept k hk⟩
theorem kp1_info:(Tryz.prog.info? 138).map (fun i=>(i.zero,i.size,i.bytes))=some (some (.pointer none),1,8):=by kernel_rfl
def QR (w:World) (v:Value) (l:List Nat):Prop:=w.ownsRow 0 138 1 v l.length (l.map pv)
theorem QR.nil (w:World):QR w (.slice none 0 0) []:=World.ownsRow_nil w 0 _ 1
theorem QR.same {w w':World} {v:Value} {l:List Nat} (h:QR w v l) (hk:∀g cs,v.ownBlock=some g→Blk w g 138 cs→w'.heap[g]? =w.heap[g]?):QR w' v l:=by
 refine ⟨h.1,?_⟩
 rcases h.2 with c | ⟨g,cap,cur,e,hb,hg,k⟩
 ·exact .inl c
 ·exact .inr ⟨g,cap,cur,e,hb,by rw [hk g cur (by rw [e];rfl) hg];exact hg,k⟩
theorem QR.form {w:World} {v:Value} {l:List Nat} (h:QR w v l):∃p c,v=.slice p l.length c:=by
 rcases h.2 with ⟨e,k⟩ | ⟨g,cap,cur,e,_⟩
 ·exact ⟨none,0,by rw [e,k]⟩
 ·exact ⟨_,cap,e⟩
theorem QR.blk {w:World} {v:Value} {l:List Nat} (h:QR w v l) {g:Nat} (e:v.ownBlock=some g):∃cs,Blk w g 138 cs:=by
 rcases h.2 with ⟨rfl,_⟩ | ⟨g',cap,cur,rfl,_,hg,_⟩
 ·cases e
 ·simp [Value.ownBlock] at e;subst e;exact ⟨_,hg⟩
theorem QR.nums {w:World} {l:List Nat} {p:Option Addr} {n cap:Nat} (h:QR w (.slice p n cap) l):PNums w p l:=by
 intro hp
 rcases h.2 with ⟨e,k⟩ | ⟨g,c,cur,e,_,hb,_,_,h3,h4⟩
 ·omega
 ·injection e with e1 e2 e3
  subst e1
  refine ⟨g,0,rfl,Blk.lt hb,fun i hi=>?_⟩
  rw [Nat.zero_add]
  refine Blk.cell hb ?_
  have e':(l.map pv)[i]? =some (pv (l.getD i 0)):=by simp [List.getD_eq_getElem?_getD,hi]
  rw [← h4,List.getElem?_take_of_lt (by omega)] at e'
  simpa using e'
structure AsI (ks:List Kp) (b rb g bl br fr to:Nat) (w:World) (pre:List Kp) (W:World):Prop where
 rd:RdR ks b rb g bl br fr to pre W
 box:∃v,Blk W w.heap.size 229 #[v]∧W.ownsRow w.heap.size 138 1 v (itemsK pre).length ((itemsK pre).map pv)
theorem own_same {T:TypeId} {w w':World} {v:Value} {n k B:Nat} {xs:List Value} (h:w.ownsRow B T k v n xs) (hk:∀g cs,v.ownBlock=some g→B≤g→Blk w g T cs→w'.heap[g]? =w.heap[g]?):w'.ownsRow B T k v n xs:=by
 refine ⟨h.1,?_⟩
 rcases h.2 with c | ⟨g,cap,cur,e,hb,hg,k⟩
 ·exact .inl c
 ·exact .inr ⟨g,cap,cur,e,hb,by rw [hk g cur (by rw [e];rfl) hb hg];exact hg,k⟩
theorem own_ge {T:TypeId} {w:World} {v:Value} {n k B:Nat} {xs:List Value} (h:w.ownsRow B T k v n xs) {g:Nat} (e:v.ownBlock=some g):B≤g∧∃cs,Blk w g T cs:=by
 rcases h.2 with ⟨rfl,_⟩ | ⟨g',cap,cur,rfl,hb,hg,_⟩
 ·cases e
 ·simp [Value.ownBlock] at e;subst e;exact ⟨hb,_,hg⟩
theorem own_zero {T:TypeId} {w:World} {v:Value} {n k B:Nat} {xs:List Value} (h:w.ownsRow B T k v n xs):w.ownsRow 0 T k v n xs:=by
 refine ⟨h.1,?_⟩
 rcases h.2 with c | ⟨g,cap,cur,e,hb,r⟩
 ·exact .inl c
 ·exact .inr ⟨g,cap,cur,e,Nat.zero_le _,r⟩
theorem AsI.keepX {ks:List Kp} {b rb g bl br fr to:Nat} {w:World} {pre:List Kp} {W W':World} (h:AsI ks b rb g bl br fr to w pre W) (k:∀x T cs,Blk W x T cs→W'.heap[x]? =W.heap[x]?):AsI ks b rb g bl br fr to w pre W':=by
 obtain ⟨v,h1,h2⟩:=h.box
 exact ⟨h.rd.keepX fun x T cs _ hb=>k x T cs hb,v,by unfold Blk;rw [k _ _ _ h1];exact h1,own_same h2 fun g cs _ _ hb=>k g _ cs hb⟩
theorem asi_own (ks:List Kp) (b rb g bl br fr to:Nat) (w:World) (B:Nat) (hB:w.heap.size≤B):OwnFrom B (fun pre W=>AsI ks b rb g bl br fr to w pre W∧Below w.heap.size w W):=
 fun pre X Y row hs hg hr=>⟨hs.1.keepX (kept_grown hg (fun r e=>(hr r e).2)),hs.2.grown hg hs.2.size (fun k e=>Nat.le_trans hB (hr k e).1)⟩
theorem as_round {ks:List Kp} {b rb g bl br fr to:Nat} {w W w1:World} {pre:List Kp} {x:Kp} {v:Value} {o:Obj} {g' cap n:Nat} (hlt:∀y∈blocksR ks b rb g bl br,y < w.heap.size) (h:AsI ks b rb g bl br fr to w pre W) (hB:Below w.heap.size w W)
  (hb:Blk W w.heap.size 229 #[v]) (hv:W.ownsRow w.heap.size 138 1 v (itemsK pre).length ((itemsK pre).map pv)) (hn:n=(itemsK pre).length + 1)
  (hown:w1.ownsRow w.heap.size 138 1 (.slice (some ⟨g',0,none⟩) n cap) ((itemsK pre).length + 1) ((itemsK pre).map pv ++ [.pointer (some ⟨x.b,0,none⟩)])) (hg:(W.alloc o).grownBy w1 v.ownBlock) (B:Nat):
  KeepsFrom B W (w1.setCell ⟨w.heap.size,0,none⟩ (.slice (some ⟨g',0,none⟩) n cap))∧AsI ks b rb g bl br fr to w (pre ++ [x]) (w1.setCell ⟨w.heap.size,0,none⟩ (.slice (some ⟨g',0,none⟩) n cap))∧Below w.heap.size w (w1.setCell ⟨w.heap.size,0,none⟩ (.slice (some ⟨g',0,none⟩) n cap)):=by
 subst hn
 have f1:Fr W w1 v.ownBlock.toList:=((Fr.refl W v.ownBlock.toList).alloc o).trans (l':=v.ownBlock.toList) ⟨hg.os,hg.tape,hg.output,hg.size,fun k hk hl=>hg.block k hk (fun e=>hl (by rw [← e];simp))⟩ (fun y hy=>.inl hy)
 have vb:∀k∈v.ownBlock.toList,w.heap.size≤k∧k≠w.heap.size∧∃cs,Blk W k 138 cs:=fun k hk=>by
  have e:v.ownBlock=some k:=by
   cases h:v.ownBlock with
   | none=>rw [h] at hk;cases hk
   | some z=>rw [h] at hk;simp at hk;rw [hk]
  obtain ⟨h1,cs,h2⟩:=own_ge hv e
  exact ⟨h1,h2.ty hb (by decide),cs,h2⟩
 have f2:Fr W (w1.setCell ⟨w.heap.size,0,none⟩ (.slice (some ⟨g',0,none⟩) ((itemsK pre).length + 1) cap)) (w.heap.size :: v.ownBlock.toList):=(f1.mono (fun y hy=>.inl (List.mem_cons_of_mem _ hy))).set (.inl List.mem_cons_self) 0 _
 have hb1:Blk w1 w.heap.size 229 #[v]:=(hb.alloc o).grown hg (fun e=>(vb _ (by rw [← e];simp)).2.1 rfl)
 have e1:itemsK (pre ++ [x])=itemsK pre ++ [x.b + 1]:=by simp [itemsK]
 refine ⟨kf_of_fr f2 (fun y hy=>?_),⟨(h.rd.fr f2 (fun y hy hm=>?_)).more x,_,hb1.set 0 _,?_⟩,bel_fr hB f2 hB.size (fun y hy=>?_)⟩
 ·rcases List.mem_cons.1 hy with rfl | hy
  ·exact .inr ⟨_,_,hb⟩
  ·obtain ⟨_,_,cs,hc⟩:=vb y hy;exact .inr ⟨_,cs,hc⟩
 ·have:=hlt y hy
  rcases List.mem_cons.1 hm with rfl | hm
  ·omega
  ·have:=(vb y hm).1;omega
 ·rw [e1,List.length_append,List.map_append]
  refine own_same hown fun k cs e _ hk=>Below.heap_setCell _ _ _ _ ?_
  show k≠w.heap.size
  exact hk.ty hb1 (by decide)
 ·rcases List.mem_cons.1 hy with rfl | hy
  ·exact Nat.le_refl _
  ·exact (vb y hy).1
set_option maxRecDepth 100000 in
set_option maxHeartbeats 2000000 in
theorem appendseq_any (b rb g bl br fr to:Nat) (ks:List Kp) (w:World) (hR:RdR ks b rb g bl br fr to [] w) (hnd:(ks.map Kp.b).Nodup) (hri:ks.Pairwise fun x y=>x.p.n < y.p.n) (hlen:ks.length≤6000):
  Calls Tryz.prog 277 #[.slice none 0 0,.func (.func 198) #[] #[.pointer (some ⟨bl,0,none⟩),.pointer (some ⟨br,0,none⟩)]] w
   fun e w'=>∃v,e=.returned v∧QR w' v (itemsK (yK ks fr to))∧(∀k,v.ownBlock=some k→w.heap.size≤k)∧Below w.heap.size w w':=by
 have hB0:Below w.heap.size w (w.alloc (.cells #[.slice none 0 0] 229)):=(Below.refl _ _).alloc (Nat.le_refl _) _
 have HLt:=Lib.hid hR.lt
 have hI0:AsI ks b rb g bl br fr to w [] (w.alloc (.cells #[.slice none 0 0] 229)):=⟨hR.below ((Below.refl _ _).alloc (Nat.le_refl _) _),_,Blk.new _ _ _,World.ownsRow_nil _ _ _ _⟩
 have HYl:Hid ((yK ks fr to).length≤6000):=Lib.hid (Nat.le_trans (List.length_filter_le _ _) hlen)
 obtain ⟨i0,hi,hz0,hz1,hz2⟩:=info_parts kp1_info
 have HI:=Lib.hid hi
 have HZ0:=Lib.hid hz0
 have HZ1:=Lib.hid hz1
 have HZ2:=Lib.hid hz2
 have HS:=Lib.hid (between_seq 5 b rb g bl br fr to ks (by omega) hnd hri hlen)
 clear hi hz0 hz1 hz2 hR hnd hri hlen
 refine (callsIn_wide (n:=6)).1 ?_
 refine callsIn_of_wp_marks Tryz.func277 rfl trivial ?_ rfl
 simp only [Tryz.ntmps277,List.size_toArray,List.length_cons,List.length_nil,Nat.reduceAdd,Nat.reduceSub,Array.replicate_succ,Array.replicate_zero,List.push_toArray,List.append_toArray,List.nil_append,List.cons_append]
 gi_wp2
 refine wp_range1 (gf:=198) (lb:=#[.pointer (some ⟨bl,0,none⟩),.pointer (some ⟨br,0,none⟩)]) rfl (enters_of Tryz.func198 (by kernel_rfl) rfl) HS.out (fun _=>rfl)
  (fun pre W=>AsI ks b rb g bl br fr to w pre W∧Below w.heap.size w W) (fun _ _ _=>False) (asi_own ks b rb g bl br fr to w _ (by simp)) (fun _=>ownFrom_pure _ _) (fun pre A h=>h.1.rd) ⟨hI0,hB0⟩
  (fun x=>{tmps:=#[.slice none 0 0,.func (.func 198) #[] #[.pointer (some ⟨bl,0,none⟩),.pointer (some ⟨br,0,none⟩)],.pointer (some ⟨w.heap.size,0,none⟩),undef,.slice none 0 0,.pointer (some ⟨x.b,0,none⟩),.func (.func 198) #[] #[.pointer (some ⟨bl,0,none⟩),.pointer (some ⟨br,0,none⟩)],.pointer (some ⟨x.b,0,none⟩),undef,undef,undef,undef,undef],defers:=[]})
  ?assign ?body ?done (fun D c pre W _ _ _ h _=>h.elim)
 case assign=>
  intro l x W K hK
  gi_wp2
  exact hK
 case body=>
  rintro l pre x W ⟨hI,hB⟩ hok
  obtain ⟨v,hb,hv⟩:=hI.box
  have c0:=hb.cell (i:=0) rfl
  have f0:=hb.free 0
  have HIx:=Lib.hid hI
  have HB:=Lib.hid hB
  have Hb:=Lib.hid hb
  have HV:=Lib.hid hv
  have hpl:pre.length + 1≤6000:=by
   have:=hok.length_le
   rw [List.length_append] at this
   exact Nat.le_trans this HYl.out
  have hil:(itemsK pre).length≤6000:=by rw [itemsK_len];omega
  clear hI hB hb hv hok hI0 hB0
  gi_wp2_with (gi_at_builtin;refine wpListIn_append_own _ rfl _ _ 229 rfl w.heap.size 138 i0 (.pointer none) 1 8 Tryz.underlying229 HI.out HZ0.out HZ1.out HZ2.out rfl (by decide) v _ _ rfl (HV.out.alloc _) ⟨W.heap.size,0,none⟩ 1 1 [.pointer (some ⟨x.b,0,none⟩)] rfl rfl (cell_one_new _ _ _) (by simp [Value.oneCell']) (by unfold maxLen;omega) (by omega) (by have:=HB.out.size;simp;omega) ?_;intro v' w1 hown' hgrow _;obtain ⟨g',cap',rfl⟩:=ownsRow_succ hown';have HOw:=Lib.hid hown';have HGr:=Lib.hid hgrow;have u0:w1.cell? ⟨w.heap.size,0,none⟩=some v:=((Hb.out.alloc _).grown hgrow (fun e=>(own_ge HV.out e.symm).2.elim fun cs hc=>hc.ty Hb.out (by decide) rfl)).cell (i:=0) rfl;have u1:=((Hb.out.alloc _).grown hgrow (fun e=>(own_ge HV.out e.symm).2.elim fun cs hc=>hc.ty Hb.out (by decide) rfl)).free 0;clear hown' hgrow)
  exact as_round HLt.out HIx.out HB.out Hb.out HV.out rfl HOw.out HGr.out _
 case done=>
  rintro D xs W hD hDl rfl ⟨hI,hB⟩ hK
  have hP:=(asi_own ks b rb g bl br fr to w w.heap.size (Nat.le_refl _)).putObj (.deferred none) ⟨hI,hB⟩ (Nat.le_trans (by simp) hD) hK rfl
  obtain ⟨v,hb,hv⟩:=hI.box
  have c0:=hb.cell (i:=0) rfl
  have hv2:=ownsRow_putObj hv (.deferred none) hK rfl
  have HV:=Lib.hid hv
  have HV2:=Lib.hid hv2
  have HP:=Lib.hid hP.2
  have HK:=Lib.hid hK
  clear hI hB hb hv hv2 hP hI0 hB0 hD hDl hK
  gi_wp2
  refine ⟨by simp,.inl ⟨_,_,rfl,run_takeDeferred HK.out,?_⟩⟩
  refine ⟨v,?_,v,rfl,own_zero HV2.out,fun k e=>(own_ge HV2.out e).1,HP.out⟩
  simp [results,Tryz.f277]
theorem collect_any (b rb g bl br fr to:Nat) (ks:List Kp) (w:World) (hR:RdR ks b rb g bl br fr to [] w) (hnd:(ks.map Kp.b).Nodup) (hri:ks.Pairwise fun x y=>x.p.n < y.p.n) (hlen:ks.length≤6000):
  Calls Tryz.prog 203 #[.func (.func 198) #[] #[.pointer (some ⟨bl,0,none⟩),.pointer (some ⟨br,0,none⟩)]] w
   fun e w'=>∃v,e=.returned v∧QR w' v (itemsK (yK ks fr to))∧(∀k,v.ownBlock=some k→w.heap.size≤k)∧Below w.heap.size w w':=by
 have HA:=Lib.hid (appendseq_any b rb g bl br fr to ks w hR hnd hri hlen)
 clear hR hnd hri hlen
 go_enter Tryz.func203,Tryz.ntmps203
 go_wp2_with fail
 refine (HA.out).mono ?_
 rintro e w' ⟨v,rfl,h1,h2,h3⟩
 have H1:=Lib.hid h1
 have H2:=Lib.hid h2
 have H3:=Lib.hid h3
 clear h1 h2 h3 HA
 go_wp2_with fail
 go_ret
 exact ⟨v,rfl,H1.out,H2.out,H3.out⟩
end Go.Proofs.YteoepabmnbkabaaGreatDoor

set_option linter.unusedVariables false
namespace Go.Proofs.YteoepabmnbkabaaGreatDoor
open Go.RowKit
def LS.with_ (s:LS) (l:List Kp):LS:={s with ks:=l}
theorem LS.sub_ok {s:LS} (h:s.ok) {l:List Kp} (hl:l.Sublist s.ks):(s.with_ l).ok:=
 ⟨h.nodup.sublist (hl.map Kp.b),h.rise.sublist hl,fun k hk=>h.lt k (hl.mem hk),fun k hk=>h.pk k (hl.mem hk),fun hm=>(h.mono hm).sublist hl,h.next,h.reorder,h.top,h.un⟩
theorem lcells_with {s:LS} {l:List Kp} (h:outK l=outK s.ks) (rb rb':Nat):lcells rb' (s.with_ l)=(lcells rb s).setIfInBounds 0 (.pointer (some ⟨rb',0,none⟩)):=by
 unfold lcells LS.with_ tot outP
 simp [h]
theorem lcells_same {s:LS} {l:List Kp} (h:outK l=outK s.ks) (rb:Nat):lcells rb (s.with_ l)=lcells rb s:=by
 unfold lcells LS.with_ tot outP
 simp [h]
def headP:List Kp→Value
 | []=>.pointer none
 | k :: _=>.pointer (some ⟨k.b,0,none⟩)
def headB:List Kp→Bool
 | []=>false
 | _ :: _=>true
theorem krow_cnt {w:World} {b g:Nat} {l:List Nat} (h:KRow w b g l):w.cell? ⟨b,2,none⟩=some (.int .i64 (l.length:Int)):=by
 obtain ⟨q,h1,rfl,h3⟩:=h
 rw [RS.len_items]
 exact h3.head.cell (i:=2) rfl
def rowN (w:World) (rb:Nat):Nat:=(intOf ((w.cell? ⟨rb,2,none⟩).getD undef)).toNat
theorem rowN_eq {w:World} {b g:Nat} {l:List Nat} (h:KRow w b g l):rowN w b=l.length:=by
 unfold rowN;rw [krow_cnt h];simp [intOf]
def NarV (ks:List Kp) (p:Value) (q:Bool):Prop:=p=headP ks∧q=headB ks
theorem led_first (b rb g:Nat) (ks:List Kp) (w:World) (h:LRd w b rb g ks) (p:Value) (q:Bool) (hp:NarV ks p q):
  Calls Tryz.prog 201 #[.pointer (some ⟨rb,0,none⟩),.int .i64 0] w fun e w'=>e=.returned (.tuple #[p,.bool q])∧Drawn w w':=by
 obtain ⟨rfl,rfl⟩:=hp
 cases ks with
 | nil=>exact k_at_out rb g 0 (itemsK []) w h.row (.inr (by simp [itemsK]))
 | cons k t=>exact led_at b rb g 0 (k :: t) w h (by simp)
structure NarI (w:World) (b rb g:Nat) (s:LS) (ks:List Kp) (wr:World):Prop where
 led:∃g',LAt wr b rb g' (s.with_ ks)∧(g'=g∨w.heap.size≤g')
 suf:ks <:+ s.ks
 out:outK ks=outK s.ks
 fr:Fr w wr (blocksL b rb g s)
theorem NarI.drawn {w wr w2:World} {b rb g:Nat} {s:LS} {ks:List Kp} (h:NarI w b rb g s ks wr) (k:Drawn wr w2):NarI w b rb g s ks w2:=by
 obtain ⟨⟨g',h1,h2⟩,h3,h4,h5⟩:=h
 exact ⟨⟨g',h1.drawn k,h2⟩,h3,h4,h5.drawn k⟩
theorem nar_shift {w wr w2:World} {b rb g g':Nat} {s:LS} {k:Kp} {t:List Kp} (hl:LAt wr b rb g' (s.with_ (k :: t))) (hg:g'=g∨w.heap.size≤g') (hs:(k :: t) <:+ s.ks) (ho:outK (k :: t)=outK s.ks) (hgn:k.gone=true) (hf:Fr w wr (blocksL b rb g s))
  (hp:KRPost wr rb g' (kgot (k.b + 1) true) (itemsK t) (kgot (k.b + 1) true) w2):NarI w b rb g s t w2:=by
 obtain ⟨_,⟨g2,h1,h2⟩,h3⟩:=hp
 have e1:outK t=outK s.ks:=by rw [← ho,outK_cons,hgn];rfl
 have hsub:∀y∈t,y∈s.ks:=fun y hy=>hs.mem (List.mem_cons_of_mem _ hy)
 obtain ⟨c2,hc2⟩:=hl.row.body
 obtain ⟨c1,hc1⟩:=hl.row.head
 have hg2:∀{y T cs},Blk wr y T cs→T≠231→T≠138→y ∉ [rb,g']:=fun {y T cs} hy k1 k2 hm=>by
  simp at hm
  rcases hm with rfl | rfl
  ·exact hy.ty hc1 k1 rfl
  ·exact hy.ty hc2 k2 rfl
 refine ⟨⟨g2,⟨?_,h1,fun y hy=>?_⟩,?_⟩,(List.suffix_cons k t).trans hs,e1,?_⟩
 ·have:=hl.head.fr h3 (hg2 hl.head (by decide) (by decide))
  rw [lcells_same ho] at this
  rw [lcells_same e1]
  exact this
 ·have hk:=hl.kept y (List.mem_cons_of_mem _ hy)
  exact hk.fr h3 (hg2 hk (by decide) (by decide))
 ·rcases h2 with rfl | h2
  ·exact hg
  ·right;have:=hf.size;omega
 ·refine hf.trans h3 (fun x hx=>?_)
  simp at hx
  rcases hx with rfl | rfl
  ·left;simp [blocksL]
  ·rcases hg with rfl | hg
   ·left;simp [blocksL]
   ·exact .inr hg
structure NarPost (w:World) (b rb g:Nat) (s:LS) (e:Ending) (w':World):Prop where
 e:e=.returned (.tuple #[])
 led:∃rb' g' ks,LAt w' b rb' g' (s.with_ ks)∧ks.Sublist s.ks∧outK ks=outK s.ks∧∀x∈blocksL b rb' g' (s.with_ ks),x∈blocksL b rb g s∨w.heap.size≤x
 fr:Fr w w' (blocksL b rb g s)
theorem nar_done {w w':World} {b rb g:Nat} {s:LS} {ks:List Kp} (h:NarI w b rb g s ks w'):NarPost w b rb g s (.returned (.tuple #[])) w':=by
 obtain ⟨⟨g',h1,h2⟩,h3,h4,h5⟩:=h
 refine ⟨rfl,⟨rb,g',ks,h1,h3.sublist,h4,fun x hx=>?_⟩,h5⟩
 simp only [blocksL,List.mem_cons,List.mem_map] at hx ⊢
 rcases hx with rfl | rfl | rfl | ⟨k,hk,rfl⟩
 ·simp
 ·simp
 ·rcases h2 with rfl | h2
  ·simp
  ·exact .inr h2
 ·exact .inl (.inr (.inr (.inr ⟨k,h3.mem hk,rfl⟩)))
theorem yK_all {ks:List Kp} (h:∀k∈ks,k.p.ok):yK ks 0 18446744073709551615=outK ks:=by
 unfold yK outK
 apply List.filter_congr
 intro k hk
 have:=(h k hk).n
 have:decide (k.p.n≤18446744073709551615)=true:=by simp;omega
 simp [inK,this]
theorem outK_outK (ks:List Kp):outK (outK ks)=outK ks:=by unfold outK;rw [List.filter_filter];simp
theorem nar_new {w wr w1 w2 w3:World} {b rb g rb' g':Nat} {s:LS} {ks:List Kp} (hp:∀k∈s.ks,k.p.ok) (h:NarI w b rb g s ks wr) (k1:Below wr.heap.size wr w3) (hr:KRow w3 rb' g' (itemsK (outK ks))) (h1:wr.heap.size≤rb') (h2:wr.heap.size≤g'):
  NarPost w b rb g s (.returned (.tuple #[])) (w3.setCell ⟨b,0,none⟩ (.pointer (some ⟨rb',0,none⟩))):=by
 obtain ⟨⟨g0,h3,h4⟩,h5,h6,h7⟩:=h
 have hsz:=h7.size
 have hbw:=h3.head.keep k1
 have hb:=hbw.set 0 (.pointer (some ⟨rb',0,none⟩))
 have e1:outK (outK ks)=outK s.ks:=by rw [outK_outK,h6]
 rw [lcells_same h6,← lcells_with e1] at hb
 obtain ⟨c1,hc1⟩:=hr.head
 obtain ⟨c2,hc2⟩:=hr.body
 refine ⟨rfl,⟨rb',g',outK ks,⟨hb,hr.set_other (hc1.ty hbw (by decide)) (hc2.ty hbw (by decide)),fun y hy=>?_⟩,(outK_sub ks).trans h5.sublist,e1,fun x hx=>?_⟩,(h7.below k1).set (.inl (by simp [blocksL])) 0 _⟩
 ·have hk:=(h3.kept y ((outK_sub ks).mem hy)).keep k1
  exact hk.set_other 0 _ (hk.ty hbw (by decide))
 ·simp only [blocksL,List.mem_cons,List.mem_map] at hx ⊢
  rcases hx with rfl | rfl | rfl | ⟨k,hk,rfl⟩
  ·simp
  ·right;omega
  ·right;omega
  ·exact .inl (.inr (.inr (.inr ⟨k,h5.mem ((outK_sub ks).mem hk),rfl⟩)))
end Go.Proofs.YteoepabmnbkabaaGreatDoor

set_option linter.unusedVariables false
namespace Go.Proofs.YteoepabmnbkabaaGreatDoor
open Go.RowKit
set_option maxRecDepth 100000 in
set_option maxHeartbeats 2000000 in
theorem narrow_any (b rb g:Nat) (s:LS) (w:World) (h:LAt w b rb g s) (hs:s.ok):
  Calls Tryz.prog 129 #[.pointer (some ⟨b,0,none⟩)] w (NarPost w b rb g s):=by
 have l0:=h.rd.cell0
 obtain ⟨p0,q0,HV0⟩:∃p q,Hid (NarV s.ks p q):=⟨_,_,Lib.hid ⟨rfl,rfl⟩⟩
 have HF:=Lib.hid (led_first b rb g s.ks w h.rd p0 q0 HV0.out)
 have HH:=Lib.hid h
 have HS:=Lib.hid hs
 have HLen:Hid (s.ks.length≤6000):=Lib.hid (Nat.le_trans (LS.len_le hs) hs.next)
 have ho:=LS.out_le hs
 obtain ⟨o,hoo⟩:∃o,(outK s.ks).length=o:=⟨_,rfl⟩
 rw [hoo] at ho
 have HOut:=Lib.hid hoo
 clear h hs hoo
 go_enter Tryz.func129,Tryz.ntmps129
 go_wp2_with fail
 refine (HF.out).mono ?_
 rintro e w1 ⟨rfl,hd⟩
 have HI0:Hid (NarI w b rb g s s.ks w1):=Lib.hid (NarI.drawn ⟨⟨g,HH.out,.inl rfl⟩,List.suffix_refl _,rfl,Fr.refl _ _⟩ hd)
 clear hd HF l0
 go_wp2_with fail
 go_loopw [2,3] (fun p ok wr=>∃ks q,ok=.bool q∧NarV ks p q∧NarI w b rb g s ks wr) (fun _ _ wr=>rowN wr rb)
 case atStart=>exact ⟨s.ks,_,rfl,HV0.out,HI0.out⟩
 case round=>
  obtain ⟨ks,q,rfl,hV,hI⟩:=hrel
  clear HI0 HV0
  rcases ks with _ | ⟨k,t⟩
  ·obtain ⟨rfl,rfl⟩:=hV
   simp only [headP,headB]
   have HI:=Lib.hid hI
   obtain ⟨g1,hl1,_⟩:=hI.led
   have HL:=Lib.hid (fun m=>(led_len b rb g1 (([]:List Kp)) (wr.drewN m) (hl1.rd.keep (Drawn.below ⟨m,rfl⟩ _))).mono (fun e w' (h:e=_∧wr.drewN m=w')=>(⟨h.1,h.2.symm⟩:e=_∧w'=wr.drewN m)))
   have r0:=hl1.rd.cell0
   have r1:wr.cell? ⟨b,1,none⟩=some (.int .i64 (o:Int)):=hl1.head.cell (i:=1) (by rw [← HOut.out,← hI.out];rfl)
   have hkl:(([]:List Kp)).length≤6000:=Nat.le_trans hI.suf.length_le HLen.out
   have HKs:=Lib.hid (LS.sub_ok HS.out hI.suf.sublist)
   have hwr:IntKind.i64.wrap (2 * (o:Int))=2 * (o:Int):=IntWalk.i64_in _ (by omega)
   clear hI hl1
   generalize hn:(([]:List Kp)).length=nk at hkl HL
   have HNk:=Lib.hid hn
   clear hn
   by_cases hgt:2 * o < nk
   ·have d1:decide (2 * (o:Int) < (nk:Int))=true:=decide_eq_true (by omega)
    have HGt:=Lib.hid hgt
    clear hgt
    go_wp2_with fail
    go_quiet ((go_at_call 200;exact Calls.quiet_of_same (HL.out _)))
    have HI1:=Lib.hid (HI.out.drawn ⟨nq,rfl⟩)
    clear r0 r1 hwr HI HL
    generalize wr.drewN nq=w1 at *
    have HC:=Lib.hid (all_any b w1)
    obtain ⟨g2,hl2,_⟩:=HI1.out.led
    have HR2:=Lib.hid ((hl2.keep (bw1_below w1 b 0 18446744073709551615)).rdr (bw1_l w1 b 0 18446744073709551615) (bw1_r w1 b 0 18446744073709551615))
    have HCol:=Lib.hid (collect_any b rb g2 w1.heap.size (w1.heap.size + 1) 0 18446744073709551615 (([]:List Kp)) (bw1 w1 b 0 18446744073709551615) HR2.out HKs.out.nodup HKs.out.rise (by rw [HNk.out];exact hkl))
    clear hl2
    go_wp2_with fail
    refine (HC.out).mono ?_
    rintro e w2 ⟨rfl,rfl⟩
    unfold bfn
    go_wp2_with fail
    refine (HCol.out).mono ?_
    rintro e w3 ⟨v,rfl,h1,h2,h3⟩
    obtain ⟨p,c,rfl⟩:=h1.form
    have HB3:=Lib.hid (bel_to (bw1_below w1 b 0 18446744073709551615) h3 (by rw [bw1_size];omega))
    have HNw:=Lib.hid (k_new p c _ w3 h1.nums (by rw [itemsK_len];have:=List.length_filter_le (inK 0 18446744073709551615) (([]:List Kp));unfold yK;rw [HNk.out] at this;omega))
    clear h1 h2 h3 HC HCol HR2
    go_wp2_with fail
    refine (HNw.out).mono ?_
    rintro e w4 ⟨⟨rb2,g3,rfl,h1,h2,h3⟩,h4⟩
    have HB4:=Lib.hid (bel_to HB3.out h4 HB3.out.size)
    have HNP:=Lib.hid (nar_new (w1:=w1) (w2:=w1) HS.out.pk HI1.out HB4.out (by rw [← yK_all (ks:=([]:List Kp)) HKs.out.pk];exact h1) (Nat.le_trans HB3.out.size h2) (Nat.le_trans HB3.out.size h3))
    obtain ⟨g5,hl5,_⟩:=HI1.out.led
    have f0:=(hl5.head.keep HB4.out).free 0
    have c0:=(hl5.head.keep HB4.out).cell (i:=0) (v:=.pointer (some ⟨rb,0,none⟩)) rfl
    clear h1 h2 h3 h4 hl5 HNw
    go_wp2_with fail
    go_end0
    exact HNP.out
   ·have d1:decide (2 * (o:Int) < (nk:Int))=false:=decide_eq_false (by omega)
    clear hgt
    go_wp2_with fail
    go_quiet ((go_at_call 200;exact Calls.quiet_of_same (HL.out _)))
    have HI1:=Lib.hid (HI.out.drawn ⟨nq,rfl⟩)
    clear r0 r1 hwr HI HL
    go_wp2_with fail
    go_end0
    exact nar_done HI1.out
  ·obtain ⟨rfl,rfl⟩:=hV
   simp only [headP,headB]
   have hk7:wr.cell? ⟨k.b,7,none⟩=some (.bool k.gone):=by
    obtain ⟨g1,hl1,_⟩:=hI.led
    exact (kcell (hl1.kept k List.mem_cons_self)).2.2.2.2.2.2.2
   cases hgn:k.gone
   ·rw [hgn] at hk7
    have HI:=Lib.hid hI
    obtain ⟨g1,hl1,_⟩:=hI.led
    have HL:=Lib.hid (fun m=>(led_len b rb g1 (k :: t) (wr.drewN m) (hl1.rd.keep (Drawn.below ⟨m,rfl⟩ _))).mono (fun e w' (h:e=_∧wr.drewN m=w')=>(⟨h.1,h.2.symm⟩:e=_∧w'=wr.drewN m)))
    have r0:=hl1.rd.cell0
    have r1:wr.cell? ⟨b,1,none⟩=some (.int .i64 (o:Int)):=hl1.head.cell (i:=1) (by rw [← HOut.out,← hI.out];rfl)
    have hkl:(k :: t).length≤6000:=Nat.le_trans hI.suf.length_le HLen.out
    have HKs:=Lib.hid (LS.sub_ok HS.out hI.suf.sublist)
    have hwr:IntKind.i64.wrap (2 * (o:Int))=2 * (o:Int):=IntWalk.i64_in _ (by omega)
    clear hI hl1
    generalize hn:(k :: t).length=nk at hkl HL
    have HNk:=Lib.hid hn
    clear hn
    by_cases hgt:2 * o < nk
    ·have d1:decide (2 * (o:Int) < (nk:Int))=true:=decide_eq_true (by omega)
     have HGt:=Lib.hid hgt
     clear hgt
     go_wp2_with fail
     go_quiet ((go_at_call 200;exact Calls.quiet_of_same (HL.out _)))
     have HI1:=Lib.hid (HI.out.drawn ⟨nq,rfl⟩)
     clear r0 r1 hwr HI HL
     generalize wr.drewN nq=w1 at *
     have HC:=Lib.hid (all_any b w1)
     obtain ⟨g2,hl2,_⟩:=HI1.out.led
     have HR2:=Lib.hid ((hl2.keep (bw1_below w1 b 0 18446744073709551615)).rdr (bw1_l w1 b 0 18446744073709551615) (bw1_r w1 b 0 18446744073709551615))
     have HCol:=Lib.hid (collect_any b rb g2 w1.heap.size (w1.heap.size + 1) 0 18446744073709551615 (k :: t) (bw1 w1 b 0 18446744073709551615) HR2.out HKs.out.nodup HKs.out.rise (by rw [HNk.out];exact hkl))
     clear hl2
     go_wp2_with fail
     refine (HC.out).mono ?_
     rintro e w2 ⟨rfl,rfl⟩
     unfold bfn
     go_wp2_with fail
     refine (HCol.out).mono ?_
     rintro e w3 ⟨v,rfl,h1,h2,h3⟩
     obtain ⟨p,c,rfl⟩:=h1.form
     have HB3:=Lib.hid (bel_to (bw1_below w1 b 0 18446744073709551615) h3 (by rw [bw1_size];omega))
     have HNw:=Lib.hid (k_new p c _ w3 h1.nums (by rw [itemsK_len];have:=List.length_filter_le (inK 0 18446744073709551615) (k :: t);unfold yK;rw [HNk.out] at this;omega))
     clear h1 h2 h3 HC HCol HR2
     go_wp2_with fail
     refine (HNw.out).mono ?_
     rintro e w4 ⟨⟨rb2,g3,rfl,h1,h2,h3⟩,h4⟩
     have HB4:=Lib.hid (bel_to HB3.out h4 HB3.out.size)
     have HNP:=Lib.hid (nar_new (w1:=w1) (w2:=w1) HS.out.pk HI1.out HB4.out (by rw [← yK_all (ks:=k :: t) HKs.out.pk];exact h1) (Nat.le_trans HB3.out.size h2) (Nat.le_trans HB3.out.size h3))
     obtain ⟨g5,hl5,_⟩:=HI1.out.led
     have f0:=(hl5.head.keep HB4.out).free 0
     have c0:=(hl5.head.keep HB4.out).cell (i:=0) (v:=.pointer (some ⟨rb,0,none⟩)) rfl
     clear h1 h2 h3 h4 hl5 HNw
     go_wp2_with fail
     go_end0
     exact HNP.out
    ·have d1:decide (2 * (o:Int) < (nk:Int))=false:=decide_eq_false (by omega)
     clear hgt
     go_wp2_with fail
     go_quiet ((go_at_call 200;exact Calls.quiet_of_same (HL.out _)))
     have HI1:=Lib.hid (HI.out.drawn ⟨nq,rfl⟩)
     clear r0 r1 hwr HI HL
     go_wp2_with fail
     go_end0
     exact nar_done HI1.out
   ·rw [hgn] at hk7
    obtain ⟨g1,hl1,hg1⟩:=hI.led
    have r0:=hl1.rd.cell0
    have HI:=Lib.hid hI
    have HSh:=Lib.hid (k_shift rb g1 (k.b + 1) (itemsK t) wr hl1.row)
    have HL1:=Lib.hid hl1
    have HG1:=Lib.hid hg1
    have HGn:=Lib.hid hgn
    have HRn:=Lib.hid (rowN_eq hl1.row)
    clear hI hl1 hg1 hgn
    go_wp2_with fail
    refine (HSh.out).mono ?_
    rintro e w2 hp
    obtain rfl:=hp.e
    have HI2:=Lib.hid (nar_shift HL1.out HG1.out HI.out.suf HI.out.out HGn.out HI.out.fr hp)
    obtain ⟨g2,hl2,_⟩:=HI2.out.led
    have r0:=hl2.rd.cell0
    obtain ⟨p2,q2,HV2⟩:∃p q,Hid (NarV t p q):=⟨_,_,Lib.hid ⟨rfl,rfl⟩⟩
    have HF2:=Lib.hid (led_first b rb g2 t w2 hl2.rd p2 q2 HV2.out)
    clear hp hl2 HSh hk7
    unfold kgot
    go_wp2_with fail
    refine (HF2.out).mono ?_
    rintro e w3 ⟨rfl,hd⟩
    have HI3:=Lib.hid (HI2.out.drawn hd)
    clear hd r0 HF2 HI2
    go_wp2_with fail
    go_roundw
    case rel=>exact ⟨t,_,rfl,HV2.out,HI3.out⟩
    case measure=>
     obtain ⟨g3,hl3,_⟩:=HI3.out.led
     rw [rowN_eq hl3.row,HRn.out]
     simp [itemsK,LS.with_]
end Go.Proofs.YteoepabmnbkabaaGreatDoor

set_option linter.unusedVariables false
namespace Go.Proofs.YteoepabmnbkabaaGreatDoor
open Go.RowKit Go.Shelf
attribute [local go_sem] Oper.semAt_some
theorem opt_mem {o:Option Nat} {k:Nat} (h:k∈o.toList):o=some k:=by
 cases o with
 | none=>cases h
 | some z=>simp at h;rw [h]
def offT (T:TypeId):Prop:=T≠64∧T≠59∧T≠140∧T≠231∧T≠138∧T≠203
theorem RdR.off {ks:List Kp} {b rb g bl br fr to:Nat} {pre:List Kp} {W:World} (h:RdR ks b rb g bl br fr to pre W) {z:Nat} {T:TypeId} {cs:Array Value} (hz:Blk W z T cs) (hT:offT T):∀y∈blocksR ks b rb g bl br,y≠z:=by
 intro y hy
 obtain ⟨t1,t2,t3,t4,t5,t6⟩:=hT
 obtain ⟨c0,h0,_⟩:=h.rd.head
 obtain ⟨c1,hr1⟩:=h.rd.row.head
 obtain ⟨c2,hr2⟩:=h.rd.row.body
 simp only [blocksR,List.mem_cons,List.mem_map] at hy
 rcases hy with rfl | rfl | rfl | rfl | rfl | ⟨k,hk,rfl⟩
 ·exact h.hl.ty hz (Ne.symm t1)
 ·exact h.hr.ty hz (Ne.symm t2)
 ·exact h0.ty hz (Ne.symm t3)
 ·exact hr1.ty hz (Ne.symm t4)
 ·exact hr2.ty hz (Ne.symm t5)
 ·obtain ⟨gn,hg⟩:=h.rd.kept k hk
  exact hg.ty hz (Ne.symm t6)
end Go.Proofs.YteoepabmnbkabaaGreatDoor

set_option linter.unusedVariables false
namespace Go.Proofs.YteoepabmnbkabaaGreatDoor
open Go.RowKit
def LS.empty (reorder:Nat):LS:=⟨[],false,reorder,0,0,false⟩
theorem LS.empty_ok {reorder:Nat} (h:reorder≤18446744073709551615):(LS.empty reorder).ok:=
 ⟨List.nodup_nil,List.Pairwise.nil,(fun k h=>by cases h),(fun k h=>by cases h),fun _=>List.Pairwise.nil,Nat.zero_le _,h,Nat.zero_le _,fun _=>rfl⟩
structure NewL (w:World) (s:LS) (e:Ending) (w':World):Prop where
 at_:∃b rb g,e=.returned (.pointer (some ⟨b,0,none⟩))∧LAt w' b rb g s∧∀x∈blocksL b rb g s,w.heap.size≤x
 bel:Below w.heap.size w w'
theorem new_any (reorder:Nat) (w:World):
  Calls Tryz.prog 30 #[.int .u64 (reorder:Int)] w (NewL w (LS.empty reorder)):=by
 have HN:Hid (Calls Tryz.prog 72 #[.slice none 0 0] w (KMade w [])):=Lib.hid (k_new none 0 [] w (fun h=>absurd h (by simp)) (by simp))
 go_enter Tryz.func30,Tryz.ntmps30
 go_wp2_with fail
 refine (HN.out).mono ?_
 rintro e w1 ⟨⟨rb,g,rfl,h1,h2,h3⟩,h4⟩
 have H1:=Lib.hid h1
 have H2:=Lib.hid h2
 have H3:=Lib.hid h3
 have H4:=Lib.hid h4
 clear h1 h2 h3 h4 HN
 go_wp2_with fail
 go_ret
 have e:lcells rb (LS.empty reorder)=#[.pointer (some ⟨rb,0,none⟩),.int .i64 0,.int .u64 0,.int .u64 0,.bool false,.int .u64 (reorder:Int),.int .u64 0,.int .u64 0,.bool false]:=by
  simp [lcells,LS.empty,outK,tot,outP,totP]
 refine ⟨⟨w1.heap.size,rb,g,rfl,⟨by rw [e];exact Blk.new _ _ _,H1.out.alloc _,fun k h=>by cases h⟩,?_⟩,H4.out.alloc H4.out.size _⟩
 intro x hx
 simp [blocksL,LS.empty] at hx
 rcases hx with rfl | rfl | rfl
 ·exact H4.out.size
 ·exact H2.out
 ·exact H3.out
def infl (T:Nat):Nat:=if T < M64 then T else 18446744073709551615
theorem inflight_any (b rb g:Nat) (s:LS) (w:World) (h:LAt w b rb g s):
  Calls Tryz.prog 46 #[.pointer (some ⟨b,0,none⟩)] w fun e w'=>e=.returned (.int .u64 ((infl (tot s.ks):Nat):Int))∧w=w':=by
 have h2:=h.head.cell (i:=2) (v:=.int .u64 ((tot s.ks / M64:Nat):Int)) rfl
 have h3:=h.head.cell (i:=3) (v:=.int .u64 ((tot s.ks % M64:Nat):Int)) rfl
 clear h
 have hc:(0 < tot s.ks / M64∧infl (tot s.ks)=18446744073709551615)∨(tot s.ks / M64=0∧infl (tot s.ks)=tot s.ks % M64):=by
  unfold infl
  by_cases c:tot s.ks < M64
  ·rw [if_pos c,Nat.div_eq_of_lt c,Nat.mod_eq_of_lt c];exact .inr ⟨rfl,rfl⟩
  ·rw [if_neg c];exact .inl ⟨Nat.div_pos (by omega) M64_pos,rfl⟩
 rcases hc with ⟨c1,c2⟩ | ⟨c1,c2⟩
 ·rw [c2]
  clear c2
  generalize tot s.ks / M64=hi at *
  generalize tot s.ks % M64=lo at *
  have d:decide (0 < hi)=true:=by simpa using c1
  go_enter Tryz.func46,Tryz.ntmps46
  go_wp2
  go_ret
  exact ⟨rfl,rfl⟩
 ·rw [c2]
  rw [c1] at h2
  clear c1 c2
  generalize tot s.ks % M64=lo at *
  go_enter Tryz.func46,Tryz.ntmps46
  go_wp2
  go_ret
  exact ⟨rfl,rfl⟩
end Go.Proofs.YteoepabmnbkabaaGreatDoor

set_option linter.unusedVariables false
namespace Go.Proofs.YteoepabmnbkabaaGreatDoor
open Go.RowKit
def LS.push (s:LS) (kb:Nat) (p:Pk) (m:Bool):LS:={s with ks:=s.ks ++ [⟨kb,p,false⟩],mixed:=m,next:=s.next + 1}
def mixN (s:LS) (sent:Nat):Bool:=if s.ks=[] then false else s.mixed || decide (sent < (kAt s.ks (s.ks.length - 1)).p.sent)
theorem outK_push (ks:List Kp) (kb:Nat) (p:Pk):outK (ks ++ [⟨kb,p,false⟩])=outK ks ++ [⟨kb,p,false⟩]:=by unfold outK;rw [List.filter_append];rfl
theorem tot_push (ks:List Kp) (kb:Nat) (p:Pk):tot (ks ++ [⟨kb,p,false⟩])=tot ks + p.size:=by
 unfold tot outP;rw [outK_push,List.map_append,totP_append];simp [totP]
theorem last_ge {ks:List Kp} (h:ks.Pairwise fun x y=>x.p.sent≤y.p.sent):∀k∈ks,k.p.sent≤(kAt ks (ks.length - 1)).p.sent:=by
 intro k hk
 obtain ⟨i,hi,rfl⟩:=List.mem_iff_getElem.1 hk
 have e:=kAt_get (ks:=ks) (i:=ks.length - 1) (by omega)
 rw [List.getElem?_eq_getElem (by omega)] at e
 injection e with e
 rw [← e]
 rcases Nat.lt_or_ge i (ks.length - 1) with c | c
 ·exact List.pairwise_iff_getElem.1 h i (ks.length - 1) hi (by omega) c
 ·have:i=ks.length - 1:=by omega
  subst this;exact Nat.le_refl _
theorem LS.push_ok {s:LS} (h:s.ok) {kb:Nat} {p:Pk} (hp:p.ok) (hn:p.n=s.next) (hx:s.next≤5999) (hb:∀k∈s.ks,k.b≠kb):(s.push kb p (mixN s p.sent)).ok:=by
 refine ⟨?_,?_,fun k hk=>?_,fun k hk=>?_,fun hm=>?_,by show s.next + 1≤6000;omega,h.reorder,h.top,h.un⟩
 ·show ((s.ks ++ [(⟨kb,p,false⟩:Kp)]).map Kp.b).Nodup
  rw [List.map_append,List.nodup_append]
  refine ⟨h.nodup,by simp,fun a ha c hc=>?_⟩
  obtain ⟨k,hk,rfl⟩:=List.mem_map.1 ha
  simp at hc;subst hc;exact hb k hk
 ·show (s.ks ++ [(⟨kb,p,false⟩:Kp)]).Pairwise _
  rw [List.pairwise_append]
  refine ⟨h.rise,by simp,fun a ha c hc=>?_⟩
  simp at hc;subst hc;have:=h.lt a ha;show a.p.n < p.n;omega
 ·rcases List.mem_append.1 hk with hk | hk
  ·have:=h.lt k hk;show k.p.n < s.next + 1;omega
  ·simp at hk;subst hk;show p.n < s.next + 1;omega
 ·rcases List.mem_append.1 hk with hk | hk
  ·exact h.pk k hk
  ·simp at hk;subst hk;exact hp
 ·show (s.ks ++ [(⟨kb,p,false⟩:Kp)]).Pairwise _
  have hm':mixN s p.sent=false:=hm
  unfold mixN at hm'
  by_cases c:s.ks=[]
  ·rw [c];simp
  ·rw [if_neg c,Bool.or_eq_false_iff] at hm'
   have hmo:=h.mono hm'.1
   rw [List.pairwise_append]
   refine ⟨hmo,by simp,fun a ha d hd=>?_⟩
   simp at hd;subst hd
   have h1:=last_ge hmo a ha
   have h2:=hm'.2
   simp at h2
   show a.p.sent≤p.sent
   omega
theorem lcells_push {rb:Nat} {s:LS} {kb:Nat} {p:Pk} {m:Bool} {lo' hi':Int} (h1:lo'=((tot s.ks + p.size) % M64:Nat)) (h2:hi'=((tot s.ks + p.size) / M64:Nat)):
  (((((lcells rb s).setIfInBounds 6 (.int .u64 ((s.next:Int) + 1))).setIfInBounds 4 (.bool m)).setIfInBounds 1 (.int .i64 (((outK s.ks).length:Int) + 1))).setIfInBounds 3 (.int .u64 lo')).setIfInBounds 2 (.int .u64 hi')=lcells rb (s.push kb p m):=by
 subst h1 h2
 have e1:(outK (s.push kb p m).ks).length=(outK s.ks).length + 1:=by show (outK (s.ks ++ _)).length=_;rw [outK_push];simp
 have e2:tot (s.push kb p m).ks=tot s.ks + p.size:=tot_push _ _ _
 unfold lcells
 rw [e1,e2]
 simp [LS.push]
structure SendPost (w:World) (b rb g:Nat) (s:LS) (p:Pk) (e:Ending) (w':World):Prop where
 e:e=.returned (.int .u64 (s.next:Int))
 led:∃g' kb,LAt w' b rb g' (s.push kb p (mixN s p.sent))∧(∀k∈s.ks,k.b≠kb)∧(g'=g∨w.heap.size≤g')∧w.heap.size≤kb
 fr:Fr w w' (blocksL b rb g s)
theorem send_end {w w3 w4:World} {b rb g:Nat} {s:LS} {p:Pk} {m:Bool} {lo' hi':Int} (h:LAt w b rb g s) (h1:lo'=((tot s.ks + p.size) % M64:Nat)) (h2:hi'=((tot s.ks + p.size) / M64:Nat)) (hm:m=mixN s p.sent)
  (F3:Fr w w3 [b]) (B3:Blk w3 b 140 (((lcells rb s).setIfInBounds 6 (.int .u64 ((s.next:Int) + 1))).setIfInBounds 4 (.bool m)))
  (hp:KRPost (w3.alloc (.cells (Kp.cells p false) 203)).drew rb g (.returned (.tuple #[])) (itemsK s.ks ++ [w3.heap.size + 1]) (.returned (.tuple #[])) w4):
  SendPost w b rb g s p (.returned (.int .u64 (s.next:Int))) (((w4.setCell ⟨b,1,none⟩ (.int .i64 (((outK s.ks).length:Int) + 1))).setCell ⟨b,3,none⟩ (.int .u64 lo')).setCell ⟨b,2,none⟩ (.int .u64 hi')):=by
 obtain ⟨_,⟨g',k1,k2⟩,k3⟩:=hp
 have hsz:=F3.size
 have e0:(w3.alloc (.cells (Kp.cells p false) 203)).drew.heap.size=w3.heap.size + 1:=by simp
 rw [e0] at k2
 obtain ⟨c1,hc1⟩:=h.row.head
 obtain ⟨c2,hc2⟩:=h.row.body
 have nb:b ∉ [rb,g]:=by
  have a1:=h.head.ty hc1 (by decide)
  have a2:=h.head.ty hc2 (by decide)
  simp [a1,a2]
 have b4:=((B3.alloc (.cells (Kp.cells p false) 203)).drew).fr k3 nb
 have b5:=((b4.set 1 (.int .i64 (((outK s.ks).length:Int) + 1))).set 3 (.int .u64 lo')).set 2 (.int .u64 hi')
 rw [lcells_push (kb:=w3.heap.size) h1 h2] at b5
 have f4:Fr w w4 (blocksL b rb g s):=(((F3.mono (fun x hx=>.inl (by simp at hx;subst hx;simp [blocksL]))).alloc _).drawn (Drawn.drew _)).trans k3 (fun x hx=>by simp at hx;rcases hx with rfl | rfl <;> simp [blocksL])
 have f5:=((f4.set (c:=b) (.inl (by simp [blocksL])) 1 (.int .i64 (((outK s.ks).length:Int) + 1))).set (c:=b) (.inl (by simp [blocksL])) 3 (.int .u64 lo')).set (c:=b) (.inl (by simp [blocksL])) 2 (.int .u64 hi')
 subst hm
 have hk4:∀k∈s.ks,Blk w4 k.b 203 (Kp.cells k.p k.gone):=fun k hk=>by
  have a:=h.kept k hk
  have a1:=a.fr F3 (by have:=a.ty h.head (by decide);simp [this])
  refine ((a1.alloc _).drew).fr k3 ?_
  have:=a.ty hc1 (by decide)
  have:=a.ty hc2 (by decide)
  simp [*]
 have hn4:Blk w4 w3.heap.size 203 (Kp.cells p false):=((Blk.new w3 203 (Kp.cells p false)).drew).fr k3 (by
  have:=hc1.lt
  have:=hc2.lt
  simp;omega)
 have hnb:∀{x cs},Blk w4 x 203 cs→x≠b:=fun hx=>hx.ty b4 (by decide)
 obtain ⟨d1,hd1⟩:=k1.head
 obtain ⟨d2,hd2⟩:=k1.body
 refine ⟨rfl,⟨g',w3.heap.size,⟨b5,?_,fun k hk=>?_⟩,fun k hk=>?_,?_,hsz⟩,f5⟩
 ·have e:itemsK (s.push w3.heap.size p (mixN s p.sent)).ks=itemsK s.ks ++ [w3.heap.size + 1]:=by simp [itemsK,LS.push]
  rw [e]
  have r1:=hd1.ty b4 (by decide)
  have r2:=hd2.ty b4 (by decide)
  exact ((k1.set_other r1 r2).set_other r1 r2).set_other r1 r2
 ·have:Blk w4 k.b 203 (Kp.cells k.p k.gone):=by
   rcases List.mem_append.1 hk with hk | hk
   ·exact hk4 k hk
   ·simp at hk;subst hk;exact hn4
  exact ((this.set_other 1 _ (hnb this)).set_other 3 _ (hnb this)).set_other 2 _ (hnb this)
 ·have:=(h.kept k hk).lt;omega
 ·rcases k2 with k2 | k2
  ·exact .inl k2
  ·right;omega
set_option maxRecDepth 100000 in
set_option maxHeartbeats 2000000 in
theorem send_none (b rb g:Nat) (s:LS) (w:World) (h:LAt w b rb g s) (hs:s.ok) (p:Pk) (hp:p.ok) (hpn:p.n=s.next) (hx:s.next≤5999) (hks:s.ks=[]):
  Calls Tryz.prog 183 #[.pointer (some ⟨b,0,none⟩),.int .u64 (p.size:Int),.agg #[.int .u64 (p.sent:Int),.int .u64 (p.first:Int),.int .u64 (p.deliv:Int),.int .u64 (p.at_:Int),.bool p.lim]] w (SendPost w b rb g s p):=by
 have HKs:=Lib.hid hks
 clear hks
 obtain ⟨cr,hcr,hdiv,hadd⟩:=add64_tot (tot s.ks) p.size hp.lt
 have hhi:tot s.ks / M64≤6000:=by
  have:=LS.tot_le hs
  have:=Nat.div_le_div_right (c:=M64) this
  rwa [Nat.mul_div_cancel _ M64_pos] at this
 have hol:=LS.out_le hs
 have hll:s.ks.length≤6000:=Nat.le_trans (LS.len_le hs) hs.next
 have HH:=Lib.hid h
 have HS:=Lib.hid hs
 have HDiv:=Lib.hid hdiv
 have HHd:=Lib.hid h.head
 have HM:Hid (false=mixN s p.sent):=Lib.hid (by unfold mixN;rw [if_pos HKs.out])
 have HPn:=Lib.hid hpn
 have B0:=Lib.hid (h.head.alloc (.cells #[.int .u64 (p.sent:Int),.int .u64 (p.first:Int),.int .u64 (p.deliv:Int),.int .u64 (p.at_:Int),.bool p.lim] 45))
 have ST0:=Lib.hid (Blk.new w 45 #[.int .u64 (p.sent:Int),.int .u64 (p.first:Int),.int .u64 (p.deliv:Int),.int .u64 (p.at_:Int),.bool p.lim])
 have hbn:b≠w.heap.size:=Nat.ne_of_lt h.head.lt
 have hnb:w.heap.size≠b:=Ne.symm hbn
 have F0:Hid (Fr w (w.alloc (.cells #[.int .u64 (p.sent:Int),.int .u64 (p.first:Int),.int .u64 (p.deliv:Int),.int .u64 (p.at_:Int),.bool p.lim] 45)) [b]):=Lib.hid ((Fr.refl _ _).alloc _)
 have HR:Hid (∀W,Fr w W [b]→KRow W rb g (itemsK s.ks)):=Lib.hid (fun W k=>by
  obtain ⟨c1,hc1⟩:=h.row.head
  obtain ⟨c2,hc2⟩:=h.row.body
  exact h.row.fr k (by have:=hc1.ty h.head (by decide);simp [this]) (by have:=hc2.ty h.head (by decide);simp [this]))
 have h6:=B0.out.cell (i:=6) (v:=.int .u64 (s.next:Int)) rfl
 have f6:=B0.out.free 6
 have hwr:IntKind.i64.wrap ((s.ks.length:Int) - 1)=(s.ks.length:Int) - 1:=IntWalk.i64_in _ (by omega)
 have HWr:=Lib.hid hwr
 clear h hs hp hdiv hpn hwr
 go_enter Tryz.func183,Tryz.ntmps183
 go_wp2_with fail
 generalize (w.alloc (.cells #[.int .u64 (p.sent:Int),.int .u64 (p.first:Int),.int .u64 (p.deliv:Int),.int .u64 (p.at_:Int),.bool p.lim] 45))=w0 at *
 have B1:=Lib.hid (B0.out.set 6 (.int .u64 ((s.next:Int) + 1)))
 have ST1:=Lib.hid (ST0.out.set_other (c:=b) 6 (.int .u64 ((s.next:Int) + 1)) hnb)
 have F1:=Lib.hid (F0.out.set (c:=b) (.inl (by simp)) 6 (.int .u64 ((s.next:Int) + 1)))
 clear B0 ST0 F0 h6 f6
 generalize w0.setCell ⟨b,6,none⟩ (.int .u64 ((s.next:Int) + 1))=w1 at *
 have l0:w1.cell? ⟨b,0,none⟩=some (.pointer (some ⟨rb,0,none⟩)):=B1.out.cell (i:=0) rfl
 have HL:=Lib.hid (fun m=>(k_len rb g (itemsK s.ks) (w1.drewN m) (HR.out _ (F1.out.drawn ⟨m,rfl⟩))).mono (fun e w' (h:e=_∧w1.drewN m=w')=>(⟨by rw [h.1,itemsK_len],h.2.symm⟩:e=.returned (.int .i64 (s.ks.length:Int))∧w'=w1.drewN m)))
 have HA:Hid (∀m,Calls Tryz.prog 201 #[.pointer (some ⟨rb,0,none⟩),.int .i64 ((s.ks.length:Int) - 1)] (w1.drewN m) fun e w'=>e=.returned (.tuple #[.pointer none,.bool false])∧∃q,w'=(w1.drewN m).drewN q):=Lib.hid (fun m=>by
  have:=k_at_out rb g ((s.ks.length:Int) - 1) (itemsK s.ks) (w1.drewN m) (HR.out _ (F1.out.drawn ⟨m,rfl⟩)) (.inl (by rw [HKs.out];decide))
  exact this)
 have hwr:=HWr.out
 go_quiet (first | (go_at_call 200;exact Calls.quiet_of_same (HL.out _)) | (go_at_call 201;exact Calls.quiet_of (HA.out _)))
 clear hwr HL HA l0
 have B2:Hid (Blk (w1.drewN nq) b 140 ((lcells rb s).setIfInBounds 6 (.int .u64 ((s.next:Int) + 1)))):=Lib.hid B1.out
 have ST2:Hid (Blk (w1.drewN nq) w.heap.size 45 #[.int .u64 (p.sent:Int),.int .u64 (p.first:Int),.int .u64 (p.deliv:Int),.int .u64 (p.at_:Int),.bool p.lim]):=Lib.hid ST1.out
 have F2:=Lib.hid (F1.out.drawn ⟨nq,rfl⟩)
 clear B1 ST1 F1
 generalize w1.drewN nq=w2 at *
 have f4:=B2.out.drew.free 4
 have m4:w2.drew.cell? ⟨b,4,none⟩=some (.bool s.mixed):=B2.out.drew.cell (i:=4) rfl
 have m5:w2.drew.cell? ⟨w.heap.size,0,none⟩=some (.int .u64 (p.sent:Int)):=ST2.out.drew.cell (i:=0) rfl
 go_wp2_with fail
 go_region
 have B3:=Lib.hid ((B2.out.set 4 (.bool false)).drew)
 have ST3:=Lib.hid ((ST2.out.set_other (c:=b) 4 (.bool false) hnb).drew)
 have F3:=Lib.hid ((F2.out.set (c:=b) (.inl (by simp)) 4 (.bool false)).drawn (Drawn.drew _))
 clear B2 ST2 F2 f4 m4 m5
 generalize (w2.setCell ⟨b,4,none⟩ (.bool false)).drew=w3 at *
 have r0:w3.drew.cell? ⟨b,0,none⟩=some (.pointer (some ⟨rb,0,none⟩)):=B3.out.drew.cell (i:=0) rfl
 have t0:=ST3.out.drew.cell (i:=0) (v:=.int .u64 (p.sent:Int)) rfl
 have t1:=ST3.out.drew.cell (i:=1) (v:=.int .u64 (p.first:Int)) rfl
 have t2:=ST3.out.drew.cell (i:=2) (v:=.int .u64 (p.deliv:Int)) rfl
 have t3:=ST3.out.drew.cell (i:=3) (v:=.int .u64 (p.at_:Int)) rfl
 have t4:=ST3.out.drew.cell (i:=4) (v:=.bool p.lim) rfl
 have R0:=Lib.hid r0
 have T0:=Lib.hid t0
 have T1:=Lib.hid t1
 have T2:=Lib.hid t2
 have T3:=Lib.hid t3
 have T4:=Lib.hid t4
 have hkc:(Kp.cells p false)=#[.int .u64 (s.next:Int),.int .u64 (p.size:Int),.int .u64 (p.sent:Int),.int .u64 (p.first:Int),.int .u64 (p.deliv:Int),.int .u64 (p.at_:Int),.bool p.lim,.bool false]:=by rw [← HPn.out];rfl
 have HP:Hid (Calls Tryz.prog 255 #[.pointer (some ⟨rb,0,none⟩),.pointer (some ⟨w3.heap.size,0,none⟩)] (w3.alloc (.cells #[.int .u64 (s.next:Int),.int .u64 (p.size:Int),.int .u64 (p.sent:Int),.int .u64 (p.first:Int),.int .u64 (p.deliv:Int),.int .u64 (p.at_:Int),.bool p.lim,.bool false] 203)).drew
   (KRPost (w3.alloc (.cells (Kp.cells p false) 203)).drew rb g (.returned (.tuple #[])) (itemsK s.ks ++ [w3.heap.size + 1]))):=Lib.hid (by
  rw [← hkc]
  exact k_push rb g (w3.heap.size + 1) (itemsK s.ks) _ (((HR.out _ F3.out).alloc _).drawn (Drawn.drew _)) (by rw [itemsK_len];omega))
 clear hkc
 go_wp2_with fail
 go_region_held3 (fun w'=>w'.cell? ⟨b,0,none⟩=some (.pointer (some ⟨rb,0,none⟩))∧w'.cell? ⟨w.heap.size,0,none⟩=some (.int .u64 (p.sent:Int))∧w'.cell? ⟨w.heap.size,1,none⟩=some (.int .u64 (p.first:Int))∧w'.cell? ⟨w.heap.size,2,none⟩=some (.int .u64 (p.deliv:Int))∧w'.cell? ⟨w.heap.size,3,none⟩=some (.int .u64 (p.at_:Int))∧w'.cell? ⟨w.heap.size,4,none⟩=some (.bool p.lim))
  (first | exact ⟨r0,t0,t1,t2,t3,t4⟩ | exact ⟨cell_al (w:=w3) R0.out _,cell_al (w:=w3) T0.out _,cell_al (w:=w3) T1.out _,cell_al (w:=w3) T2.out _,cell_al (w:=w3) T3.out _,cell_al (w:=w3) T4.out _⟩ | exact ⟨z0,q0,q1,q2,q3,q4⟩)
  (first | (go_at_call 255;refine (HP.out).mono ?_;intro e w4 hpo;obtain rfl:=hpo.e;have HPo:=Lib.hid hpo;clear hpo;have B4:=Lib.hid (((B3.out.alloc _).drew).fr HPo.out.mv (fun hm=>by (obtain ⟨c1,hc1⟩:=HH.out.row.head);(obtain ⟨c2,hc2⟩:=HH.out.row.body);have a1:=HH.out.head.ty hc1 (by decide);have a2:=HH.out.head.ty hc2 (by decide);simp [a1,a2] at hm));have ST4:=Lib.hid (((ST3.out.alloc _).drew).fr HPo.out.mv (fun hm=>by (obtain ⟨c1,hc1⟩:=HH.out.row.head);(obtain ⟨c2,hc2⟩:=HH.out.row.body);have a1:=hc1.lt;have a2:=hc2.lt;simp at hm;omega));have z0:=B4.out.cell (i:=0) (v:=.pointer (some ⟨rb,0,none⟩)) rfl;have q0:=ST4.out.cell (i:=0) (v:=.int .u64 (p.sent:Int)) rfl;have q1:=ST4.out.cell (i:=1) (v:=.int .u64 (p.first:Int)) rfl;have q2:=ST4.out.cell (i:=2) (v:=.int .u64 (p.deliv:Int)) rfl;have q3:=ST4.out.cell (i:=3) (v:=.int .u64 (p.at_:Int)) rfl;have q4:=ST4.out.cell (i:=4) (v:=.bool p.lim) rfl))
 have l1:w4.cell? ⟨b,1,none⟩=some (.int .i64 ((outK s.ks).length:Int)):=B4.out.cell (i:=1) rfl
 have l2:w4.cell? ⟨b,2,none⟩=some (.int .u64 ((tot s.ks / M64:Nat):Int)):=B4.out.cell (i:=2) rfl
 have l3:w4.cell? ⟨b,3,none⟩=some (.int .u64 ((tot s.ks % M64:Nat):Int)):=B4.out.cell (i:=3) rfl
 have g1:=B4.out.free 1
 have g2:=B4.out.free 2
 have g3:=B4.out.free 3
 have SE:=Lib.hid (send_end (lo':=(((tot s.ks + p.size) % M64:Nat):Int)) (hi':=((tot s.ks / M64:Nat):Int) + (cr:Int)) HH.out rfl (by rw [HDiv.out];simp) HM.out F3.out B3.out HPo.out)
 clear z0 q0 q1 q2 q3 q4 r0 t0 t1 t2 t3 t4 R0 T0 T1 T2 T3 T4 HP HH HS HHd HDiv B3 ST3 F3 HR HM hbn hnb
 generalize (outK s.ks).length=o at *
 generalize tot s.ks / M64=hi at *
 generalize tot s.ks % M64=lo at *
 generalize (tot s.ks + p.size) % M64=lo' at *
 go_wp2_with fail
 go_ret
 exact SE.out
set_option maxRecDepth 100000 in
set_option maxHeartbeats 2000000 in
theorem send_mixed (b rb g:Nat) (s:LS) (w:World) (h:LAt w b rb g s) (hs:s.ok) (p:Pk) (hp:p.ok) (hpn:p.n=s.next) (hx:s.next≤5999) (hks:s.ks≠[]) (hmx:s.mixed=true):
  Calls Tryz.prog 183 #[.pointer (some ⟨b,0,none⟩),.int .u64 (p.size:Int),.agg #[.int .u64 (p.sent:Int),.int .u64 (p.first:Int),.int .u64 (p.deliv:Int),.int .u64 (p.at_:Int),.bool p.lim]] w (SendPost w b rb g s p):=by
 have HKs:=Lib.hid hks
 have HPos:Hid (0 < s.ks.length):=Lib.hid (List.length_pos_iff.2 hks)
 have HLK:=Lib.hid (h.kept _ (kAt_mem (i:=s.ks.length - 1) (by have:=HPos.out;omega)))
 have HLb:Hid ((kAt s.ks (s.ks.length - 1)).b≠b):=Lib.hid (HLK.out.ty h.head (by decide))
 clear hks
 obtain ⟨cr,hcr,hdiv,hadd⟩:=add64_tot (tot s.ks) p.size hp.lt
 have hhi:tot s.ks / M64≤6000:=by
  have:=LS.tot_le hs
  have:=Nat.div_le_div_right (c:=M64) this
  rwa [Nat.mul_div_cancel _ M64_pos] at this
 have hol:=LS.out_le hs
 have hll:s.ks.length≤6000:=Nat.le_trans (LS.len_le hs) hs.next
 have HH:=Lib.hid h
 have HS:=Lib.hid hs
 have HDiv:=Lib.hid hdiv
 have HHd:=Lib.hid h.head
 have HM:Hid (true=mixN s p.sent):=Lib.hid (by unfold mixN;rw [if_neg HKs.out,hmx];rfl)
 have HPn:=Lib.hid hpn
 have B0:=Lib.hid (h.head.alloc (.cells #[.int .u64 (p.sent:Int),.int .u64 (p.first:Int),.int .u64 (p.deliv:Int),.int .u64 (p.at_:Int),.bool p.lim] 45))
 have ST0:=Lib.hid (Blk.new w 45 #[.int .u64 (p.sent:Int),.int .u64 (p.first:Int),.int .u64 (p.deliv:Int),.int .u64 (p.at_:Int),.bool p.lim])
 have hbn:b≠w.heap.size:=Nat.ne_of_lt h.head.lt
 have hnb:w.heap.size≠b:=Ne.symm hbn
 have F0:Hid (Fr w (w.alloc (.cells #[.int .u64 (p.sent:Int),.int .u64 (p.first:Int),.int .u64 (p.deliv:Int),.int .u64 (p.at_:Int),.bool p.lim] 45)) [b]):=Lib.hid ((Fr.refl _ _).alloc _)
 have HR:Hid (∀W,Fr w W [b]→KRow W rb g (itemsK s.ks)):=Lib.hid (fun W k=>by
  obtain ⟨c1,hc1⟩:=h.row.head
  obtain ⟨c2,hc2⟩:=h.row.body
  exact h.row.fr k (by have:=hc1.ty h.head (by decide);simp [this]) (by have:=hc2.ty h.head (by decide);simp [this]))
 have h6:=B0.out.cell (i:=6) (v:=.int .u64 (s.next:Int)) rfl
 have f6:=B0.out.free 6
 have hwr:IntKind.i64.wrap ((s.ks.length:Int) - 1)=(s.ks.length:Int) - 1:=IntWalk.i64_in _ (by omega)
 have HWr:=Lib.hid hwr
 clear h hs hp hdiv hpn hwr
 go_enter Tryz.func183,Tryz.ntmps183
 go_wp2_with fail
 generalize (w.alloc (.cells #[.int .u64 (p.sent:Int),.int .u64 (p.first:Int),.int .u64 (p.deliv:Int),.int .u64 (p.at_:Int),.bool p.lim] 45))=w0 at *
 have B1:=Lib.hid (B0.out.set 6 (.int .u64 ((s.next:Int) + 1)))
 have ST1:=Lib.hid (ST0.out.set_other (c:=b) 6 (.int .u64 ((s.next:Int) + 1)) hnb)
 have F1:=Lib.hid (F0.out.set (c:=b) (.inl (by simp)) 6 (.int .u64 ((s.next:Int) + 1)))
 clear B0 ST0 F0 h6 f6
 generalize w0.setCell ⟨b,6,none⟩ (.int .u64 ((s.next:Int) + 1))=w1 at *
 have l0:w1.cell? ⟨b,0,none⟩=some (.pointer (some ⟨rb,0,none⟩)):=B1.out.cell (i:=0) rfl
 have HL:=Lib.hid (fun m=>(k_len rb g (itemsK s.ks) (w1.drewN m) (HR.out _ (F1.out.drawn ⟨m,rfl⟩))).mono (fun e w' (h:e=_∧w1.drewN m=w')=>(⟨by rw [h.1,itemsK_len],h.2.symm⟩:e=.returned (.int .i64 (s.ks.length:Int))∧w'=w1.drewN m)))
 have HA:Hid (∀m,Calls Tryz.prog 201 #[.pointer (some ⟨rb,0,none⟩),.int .i64 ((s.ks.length:Int) - 1)] (w1.drewN m) fun e w'=>e=.returned (.tuple #[.pointer (some ⟨(kAt s.ks (s.ks.length - 1)).b,0,none⟩),.bool true])∧∃q,w'=(w1.drewN m).drewN q):=Lib.hid (fun m=>by
  have:=k_at rb g (s.ks.length - 1) (itemsK s.ks) (w1.drewN m) (HR.out _ (F1.out.drawn ⟨m,rfl⟩)) (by rw [itemsK_len];have:=HPos.out;omega)
  rw [kAt_item (by have:=HPos.out;omega)] at this
  have e:((s.ks.length - 1:Nat):Int)=(s.ks.length:Int) - 1:=by have:=HPos.out;omega
  rw [e] at this
  exact this)
 have hwr:=HWr.out
 go_quiet (first | (go_at_call 200;exact Calls.quiet_of_same (HL.out _)) | (go_at_call 201;exact Calls.quiet_of (HA.out _)))
 clear hwr HL HA l0
 have B2:Hid (Blk (w1.drewN nq) b 140 ((lcells rb s).setIfInBounds 6 (.int .u64 ((s.next:Int) + 1)))):=Lib.hid B1.out
 have ST2:Hid (Blk (w1.drewN nq) w.heap.size 45 #[.int .u64 (p.sent:Int),.int .u64 (p.first:Int),.int .u64 (p.deliv:Int),.int .u64 (p.at_:Int),.bool p.lim]):=Lib.hid ST1.out
 have F2:=Lib.hid (F1.out.drawn ⟨nq,rfl⟩)
 clear B1 ST1 F1
 generalize w1.drewN nq=w2 at *
 have LK:=Lib.hid (HLK.out.fr F2.out (by simp [HLb.out]))
 have m6:w2.drew.cell? ⟨(kAt s.ks (s.ks.length - 1)).b,2,none⟩=some (.int .u64 ((kAt s.ks (s.ks.length - 1)).p.sent:Int)):=(kcell LK.out.drew).2.2.1
 generalize (kAt s.ks (s.ks.length - 1)).b=lb at *
 generalize (kAt s.ks (s.ks.length - 1)).p.sent=ls at *
 have HMx:=Lib.hid hmx
 clear hmx
 have f4:=B2.out.drew.free 4
 have m4:w2.drew.cell? ⟨b,4,none⟩=some (.bool true):=B2.out.drew.cell (i:=4) (by rw [← HMx.out];rfl)
 have m5:w2.drew.cell? ⟨w.heap.size,0,none⟩=some (.int .u64 (p.sent:Int)):=ST2.out.drew.cell (i:=0) rfl
 go_wp2_with fail
 go_region
 have B3:=Lib.hid ((B2.out.set 4 (.bool true)).drew)
 have ST3:=Lib.hid ((ST2.out.set_other (c:=b) 4 (.bool true) hnb).drew)
 have F3:=Lib.hid ((F2.out.set (c:=b) (.inl (by simp)) 4 (.bool true)).drawn (Drawn.drew _))
 clear B2 ST2 F2 f4 m4 m5
 generalize (w2.setCell ⟨b,4,none⟩ (.bool true)).drew=w3 at *
 have r0:w3.drew.cell? ⟨b,0,none⟩=some (.pointer (some ⟨rb,0,none⟩)):=B3.out.drew.cell (i:=0) rfl
 have t0:=ST3.out.drew.cell (i:=0) (v:=.int .u64 (p.sent:Int)) rfl
 have t1:=ST3.out.drew.cell (i:=1) (v:=.int .u64 (p.first:Int)) rfl
 have t2:=ST3.out.drew.cell (i:=2) (v:=.int .u64 (p.deliv:Int)) rfl
 have t3:=ST3.out.drew.cell (i:=3) (v:=.int .u64 (p.at_:Int)) rfl
 have t4:=ST3.out.drew.cell (i:=4) (v:=.bool p.lim) rfl
 have R0:=Lib.hid r0
 have T0:=Lib.hid t0
 have T1:=Lib.hid t1
 have T2:=Lib.hid t2
 have T3:=Lib.hid t3
 have T4:=Lib.hid t4
 have hkc:(Kp.cells p false)=#[.int .u64 (s.next:Int),.int .u64 (p.size:Int),.int .u64 (p.sent:Int),.int .u64 (p.first:Int),.int .u64 (p.deliv:Int),.int .u64 (p.at_:Int),.bool p.lim,.bool false]:=by rw [← HPn.out];rfl
 have HP:Hid (Calls Tryz.prog 255 #[.pointer (some ⟨rb,0,none⟩),.pointer (some ⟨w3.heap.size,0,none⟩)] (w3.alloc (.cells #[.int .u64 (s.next:Int),.int .u64 (p.size:Int),.int .u64 (p.sent:Int),.int .u64 (p.first:Int),.int .u64 (p.deliv:Int),.int .u64 (p.at_:Int),.bool p.lim,.bool false] 203)).drew
   (KRPost (w3.alloc (.cells (Kp.cells p false) 203)).drew rb g (.returned (.tuple #[])) (itemsK s.ks ++ [w3.heap.size + 1]))):=Lib.hid (by
  rw [← hkc]
  exact k_push rb g (w3.heap.size + 1) (itemsK s.ks) _ (((HR.out _ F3.out).alloc _).drawn (Drawn.drew _)) (by rw [itemsK_len];omega))
 clear hkc
 go_wp2_with fail
 go_region_held3 (fun w'=>w'.cell? ⟨b,0,none⟩=some (.pointer (some ⟨rb,0,none⟩))∧w'.cell? ⟨w.heap.size,0,none⟩=some (.int .u64 (p.sent:Int))∧w'.cell? ⟨w.heap.size,1,none⟩=some (.int .u64 (p.first:Int))∧w'.cell? ⟨w.heap.size,2,none⟩=some (.int .u64 (p.deliv:Int))∧w'.cell? ⟨w.heap.size,3,none⟩=some (.int .u64 (p.at_:Int))∧w'.cell? ⟨w.heap.size,4,none⟩=some (.bool p.lim))
  (first | exact ⟨r0,t0,t1,t2,t3,t4⟩ | exact ⟨cell_al (w:=w3) R0.out _,cell_al (w:=w3) T0.out _,cell_al (w:=w3) T1.out _,cell_al (w:=w3) T2.out _,cell_al (w:=w3) T3.out _,cell_al (w:=w3) T4.out _⟩ | exact ⟨z0,q0,q1,q2,q3,q4⟩)
  (first | (go_at_call 255;refine (HP.out).mono ?_;intro e w4 hpo;obtain rfl:=hpo.e;have HPo:=Lib.hid hpo;clear hpo;have B4:=Lib.hid (((B3.out.alloc _).drew).fr HPo.out.mv (fun hm=>by (obtain ⟨c1,hc1⟩:=HH.out.row.head);(obtain ⟨c2,hc2⟩:=HH.out.row.body);have a1:=HH.out.head.ty hc1 (by decide);have a2:=HH.out.head.ty hc2 (by decide);simp [a1,a2] at hm));have ST4:=Lib.hid (((ST3.out.alloc _).drew).fr HPo.out.mv (fun hm=>by (obtain ⟨c1,hc1⟩:=HH.out.row.head);(obtain ⟨c2,hc2⟩:=HH.out.row.body);have a1:=hc1.lt;have a2:=hc2.lt;simp at hm;omega));have z0:=B4.out.cell (i:=0) (v:=.pointer (some ⟨rb,0,none⟩)) rfl;have q0:=ST4.out.cell (i:=0) (v:=.int .u64 (p.sent:Int)) rfl;have q1:=ST4.out.cell (i:=1) (v:=.int .u64 (p.first:Int)) rfl;have q2:=ST4.out.cell (i:=2) (v:=.int .u64 (p.deliv:Int)) rfl;have q3:=ST4.out.cell (i:=3) (v:=.int .u64 (p.at_:Int)) rfl;have q4:=ST4.out.cell (i:=4) (v:=.bool p.lim) rfl))
 have l1:w4.cell? ⟨b,1,none⟩=some (.int .i64 ((outK s.ks).length:Int)):=B4.out.cell (i:=1) rfl
 have l2:w4.cell? ⟨b,2,none⟩=some (.int .u64 ((tot s.ks / M64:Nat):Int)):=B4.out.cell (i:=2) rfl
 have l3:w4.cell? ⟨b,3,none⟩=some (.int .u64 ((tot s.ks % M64:Nat):Int)):=B4.out.cell (i:=3) rfl
 have g1:=B4.out.free 1
 have g2:=B4.out.free 2
 have g3:=B4.out.free 3
 have SE:=Lib.hid (send_end (lo':=(((tot s.ks + p.size) % M64:Nat):Int)) (hi':=((tot s.ks / M64:Nat):Int) + (cr:Int)) HH.out rfl (by rw [HDiv.out];simp) HM.out F3.out B3.out HPo.out)
 clear z0 q0 q1 q2 q3 q4 r0 t0 t1 t2 t3 t4 R0 T0 T1 T2 T3 T4 HP HH HS HHd HDiv B3 ST3 F3 HR HM hbn hnb
 generalize (outK s.ks).length=o at *
 generalize tot s.ks / M64=hi at *
 generalize tot s.ks % M64=lo at *
 generalize (tot s.ks + p.size) % M64=lo' at *
 go_wp2_with fail
 go_ret
 exact SE.out
set_option maxRecDepth 100000 in
set_option maxHeartbeats 2000000 in
theorem send_plain (b rb g:Nat) (s:LS) (w:World) (h:LAt w b rb g s) (hs:s.ok) (p:Pk) (hp:p.ok) (hpn:p.n=s.next) (hx:s.next≤5999) (hks:s.ks≠[]) (hmx:s.mixed=false) (d:Bool) (hd:decide (p.sent < (kAt s.ks (s.ks.length - 1)).p.sent)=d):
  Calls Tryz.prog 183 #[.pointer (some ⟨b,0,none⟩),.int .u64 (p.size:Int),.agg #[.int .u64 (p.sent:Int),.int .u64 (p.first:Int),.int .u64 (p.deliv:Int),.int .u64 (p.at_:Int),.bool p.lim]] w (SendPost w b rb g s p):=by
 have HKs:=Lib.hid hks
 have HPos:Hid (0 < s.ks.length):=Lib.hid (List.length_pos_iff.2 hks)
 have HLK:=Lib.hid (h.kept _ (kAt_mem (i:=s.ks.length - 1) (by have:=HPos.out;omega)))
 have HLb:Hid ((kAt s.ks (s.ks.length - 1)).b≠b):=Lib.hid (HLK.out.ty h.head (by decide))
 clear hks
 obtain ⟨cr,hcr,hdiv,hadd⟩:=add64_tot (tot s.ks) p.size hp.lt
 have hhi:tot s.ks / M64≤6000:=by
  have:=LS.tot_le hs
  have:=Nat.div_le_div_right (c:=M64) this
  rwa [Nat.mul_div_cancel _ M64_pos] at this
 have hol:=LS.out_le hs
 have hll:s.ks.length≤6000:=Nat.le_trans (LS.len_le hs) hs.next
 have HH:=Lib.hid h
 have HS:=Lib.hid hs
 have HDiv:=Lib.hid hdiv
 have HHd:=Lib.hid h.head
 have HM:Hid (d=mixN s p.sent):=Lib.hid (by unfold mixN;rw [if_neg HKs.out,hmx,hd];rfl)
 have HPn:=Lib.hid hpn
 have B0:=Lib.hid (h.head.alloc (.cells #[.int .u64 (p.sent:Int),.int .u64 (p.first:Int),.int .u64 (p.deliv:Int),.int .u64 (p.at_:Int),.bool p.lim] 45))
 have ST0:=Lib.hid (Blk.new w 45 #[.int .u64 (p.sent:Int),.int .u64 (p.first:Int),.int .u64 (p.deliv:Int),.int .u64 (p.at_:Int),.bool p.lim])
 have hbn:b≠w.heap.size:=Nat.ne_of_lt h.head.lt
 have hnb:w.heap.size≠b:=Ne.symm hbn
 have F0:Hid (Fr w (w.alloc (.cells #[.int .u64 (p.sent:Int),.int .u64 (p.first:Int),.int .u64 (p.deliv:Int),.int .u64 (p.at_:Int),.bool p.lim] 45)) [b]):=Lib.hid ((Fr.refl _ _).alloc _)
 have HR:Hid (∀W,Fr w W [b]→KRow W rb g (itemsK s.ks)):=Lib.hid (fun W k=>by
  obtain ⟨c1,hc1⟩:=h.row.head
  obtain ⟨c2,hc2⟩:=h.row.body
  exact h.row.fr k (by have:=hc1.ty h.head (by decide);simp [this]) (by have:=hc2.ty h.head (by decide);simp [this]))
 have h6:=B0.out.cell (i:=6) (v:=.int .u64 (s.next:Int)) rfl
 have f6:=B0.out.free 6
 have hwr:IntKind.i64.wrap ((s.ks.length:Int) - 1)=(s.ks.length:Int) - 1:=IntWalk.i64_in _ (by omega)
 have HWr:=Lib.hid hwr
 clear h hs hp hdiv hpn hwr
 go_enter Tryz.func183,Tryz.ntmps183
 go_wp2_with fail
 generalize (w.alloc (.cells #[.int .u64 (p.sent:Int),.int .u64 (p.first:Int),.int .u64 (p.deliv:Int),.int .u64 (p.at_:Int),.bool p.lim] 45))=w0 at *
 have B1:=Lib.hid (B0.out.set 6 (.int .u64 ((s.next:Int) + 1)))
 have ST1:=Lib.hid (ST0.out.set_other (c:=b) 6 (.int .u64 ((s.next:Int) + 1)) hnb)
 have F1:=Lib.hid (F0.out.set (c:=b) (.inl (by simp)) 6 (.int .u64 ((s.next:Int) + 1)))
 clear B0 ST0 F0 h6 f6
 generalize w0.setCell ⟨b,6,none⟩ (.int .u64 ((s.next:Int) + 1))=w1 at *
 have l0:w1.cell? ⟨b,0,none⟩=some (.pointer (some ⟨rb,0,none⟩)):=B1.out.cell (i:=0) rfl
 have HL:=Lib.hid (fun m=>(k_len rb g (itemsK s.ks) (w1.drewN m) (HR.out _ (F1.out.drawn ⟨m,rfl⟩))).mono (fun e w' (h:e=_∧w1.drewN m=w')=>(⟨by rw [h.1,itemsK_len],h.2.symm⟩:e=.returned (.int .i64 (s.ks.length:Int))∧w'=w1.drewN m)))
 have HA:Hid (∀m,Calls Tryz.prog 201 #[.pointer (some ⟨rb,0,none⟩),.int .i64 ((s.ks.length:Int) - 1)] (w1.drewN m) fun e w'=>e=.returned (.tuple #[.pointer (some ⟨(kAt s.ks (s.ks.length - 1)).b,0,none⟩),.bool true])∧∃q,w'=(w1.drewN m).drewN q):=Lib.hid (fun m=>by
  have:=k_at rb g (s.ks.length - 1) (itemsK s.ks) (w1.drewN m) (HR.out _ (F1.out.drawn ⟨m,rfl⟩)) (by rw [itemsK_len];have:=HPos.out;omega)
  rw [kAt_item (by have:=HPos.out;omega)] at this
  have e:((s.ks.length - 1:Nat):Int)=(s.ks.length:Int) - 1:=by have:=HPos.out;omega
  rw [e] at this
  exact this)
 have hwr:=HWr.out
 go_quiet (first | (go_at_call 200;exact Calls.quiet_of_same (HL.out _)) | (go_at_call 201;exact Calls.quiet_of (HA.out _)))
 clear hwr HL HA l0
 have B2:Hid (Blk (w1.drewN nq) b 140 ((lcells rb s).setIfInBounds 6 (.int .u64 ((s.next:Int) + 1)))):=Lib.hid B1.out
 have ST2:Hid (Blk (w1.drewN nq) w.heap.size 45 #[.int .u64 (p.sent:Int),.int .u64 (p.first:Int),.int .u64 (p.deliv:Int),.int .u64 (p.at_:Int),.bool p.lim]):=Lib.hid ST1.out
 have F2:=Lib.hid (F1.out.drawn ⟨nq,rfl⟩)
 clear B1 ST1 F1
 generalize w1.drewN nq=w2 at *
 have LK:=Lib.hid (HLK.out.fr F2.out (by simp [HLb.out]))
 have m6:w2.drew.cell? ⟨(kAt s.ks (s.ks.length - 1)).b,2,none⟩=some (.int .u64 ((kAt s.ks (s.ks.length - 1)).p.sent:Int)):=(kcell LK.out.drew).2.2.1
 generalize (kAt s.ks (s.ks.length - 1)).b=lb at *
 generalize (kAt s.ks (s.ks.length - 1)).p.sent=ls at *
 have HMx:=Lib.hid hmx
 clear hmx
 have f4:=B2.out.drew.free 4
 have m4:w2.drew.cell? ⟨b,4,none⟩=some (.bool false):=B2.out.drew.cell (i:=4) (by rw [← HMx.out];rfl)
 have m5:w2.drew.cell? ⟨w.heap.size,0,none⟩=some (.int .u64 (p.sent:Int)):=ST2.out.drew.cell (i:=0) rfl
 go_wp2_with fail
 go_region
 have B3:=Lib.hid ((B2.out.set 4 (.bool d)).drew)
 have ST3:=Lib.hid ((ST2.out.set_other (c:=b) 4 (.bool d) hnb).drew)
 have F3:=Lib.hid ((F2.out.set (c:=b) (.inl (by simp)) 4 (.bool d)).drawn (Drawn.drew _))
 clear B2 ST2 F2 f4 m4 m5
 generalize (w2.setCell ⟨b,4,none⟩ (.bool d)).drew=w3 at *
 have r0:w3.drew.cell? ⟨b,0,none⟩=some (.pointer (some ⟨rb,0,none⟩)):=B3.out.drew.cell (i:=0) rfl
 have t0:=ST3.out.drew.cell (i:=0) (v:=.int .u64 (p.sent:Int)) rfl
 have t1:=ST3.out.drew.cell (i:=1) (v:=.int .u64 (p.first:Int)) rfl
 have t2:=ST3.out.drew.cell (i:=2) (v:=.int .u64 (p.deliv:Int)) rfl
 have t3:=ST3.out.drew.cell (i:=3) (v:=.int .u64 (p.at_:Int)) rfl
 have t4:=ST3.out.drew.cell (i:=4) (v:=.bool p.lim) rfl
 have R0:=Lib.hid r0
 have T0:=Lib.hid t0
 have T1:=Lib.hid t1
 have T2:=Lib.hid t2
 have T3:=Lib.hid t3
 have T4:=Lib.hid t4
 have hkc:(Kp.cells p false)=#[.int .u64 (s.next:Int),.int .u64 (p.size:Int),.int .u64 (p.sent:Int),.int .u64 (p.first:Int),.int .u64 (p.deliv:Int),.int .u64 (p.at_:Int),.bool p.lim,.bool false]:=by rw [← HPn.out];rfl
 have HP:Hid (Calls Tryz.prog 255 #[.pointer (some ⟨rb,0,none⟩),.pointer (some ⟨w3.heap.size,0,none⟩)] (w3.alloc (.cells #[.int .u64 (s.next:Int),.int .u64 (p.size:Int),.int .u64 (p.sent:Int),.int .u64 (p.first:Int),.int .u64 (p.deliv:Int),.int .u64 (p.at_:Int),.bool p.lim,.bool false] 203)).drew
   (KRPost (w3.alloc (.cells (Kp.cells p false) 203)).drew rb g (.returned (.tuple #[])) (itemsK s.ks ++ [w3.heap.size + 1]))):=Lib.hid (by
  rw [← hkc]
  exact k_push rb g (w3.heap.size + 1) (itemsK s.ks) _ (((HR.out _ F3.out).alloc _).drawn (Drawn.drew _)) (by rw [itemsK_len];omega))
 clear hkc
 go_wp2_with fail
 go_region_held3 (fun w'=>w'.cell? ⟨b,0,none⟩=some (.pointer (some ⟨rb,0,none⟩))∧w'.cell? ⟨w.heap.size,0,none⟩=some (.int .u64 (p.sent:Int))∧w'.cell? ⟨w.heap.size,1,none⟩=some (.int .u64 (p.first:Int))∧w'.cell? ⟨w.heap.size,2,none⟩=some (.int .u64 (p.deliv:Int))∧w'.cell? ⟨w.heap.size,3,none⟩=some (.int .u64 (p.at_:Int))∧w'.cell? ⟨w.heap.size,4,none⟩=some (.bool p.lim))
  (first | exact ⟨r0,t0,t1,t2,t3,t4⟩ | exact ⟨cell_al (w:=w3) R0.out _,cell_al (w:=w3) T0.out _,cell_al (w:=w3) T1.out _,cell_al (w:=w3) T2.out _,cell_al (w:=w3) T3.out _,cell_al (w:=w3) T4.out _⟩ | exact ⟨z0,q0,q1,q2,q3,q4⟩)
  (first | (go_at_call 255;refine (HP.out).mono ?_;intro e w4 hpo;obtain rfl:=hpo.e;have HPo:=Lib.hid hpo;clear hpo;have B4:=Lib.hid (((B3.out.alloc _).drew).fr HPo.out.mv (fun hm=>by (obtain ⟨c1,hc1⟩:=HH.out.row.head);(obtain ⟨c2,hc2⟩:=HH.out.row.body);have a1:=HH.out.head.ty hc1 (by decide);have a2:=HH.out.head.ty hc2 (by decide);simp [a1,a2] at hm));have ST4:=Lib.hid (((ST3.out.alloc _).drew).fr HPo.out.mv (fun hm=>by (obtain ⟨c1,hc1⟩:=HH.out.row.head);(obtain ⟨c2,hc2⟩:=HH.out.row.body);have a1:=hc1.lt;have a2:=hc2.lt;simp at hm;omega));have z0:=B4.out.cell (i:=0) (v:=.pointer (some ⟨rb,0,none⟩)) rfl;have q0:=ST4.out.cell (i:=0) (v:=.int .u64 (p.sent:Int)) rfl;have q1:=ST4.out.cell (i:=1) (v:=.int .u64 (p.first:Int)) rfl;have q2:=ST4.out.cell (i:=2) (v:=.int .u64 (p.deliv:Int)) rfl;have q3:=ST4.out.cell (i:=3) (v:=.int .u64 (p.at_:Int)) rfl;have q4:=ST4.out.cell (i:=4) (v:=.bool p.lim) rfl))
 have l1:w4.cell? ⟨b,1,none⟩=some (.int .i64 ((outK s.ks).length:Int)):=B4.out.cell (i:=1) rfl
 have l2:w4.cell? ⟨b,2,none⟩=some (.int .u64 ((tot s.ks / M64:Nat):Int)):=B4.out.cell (i:=2) rfl
 have l3:w4.cell? ⟨b,3,none⟩=some (.int .u64 ((tot s.ks % M64:Nat):Int)):=B4.out.cell (i:=3) rfl
 have g1:=B4.out.free 1
 have g2:=B4.out.free 2
 have g3:=B4.out.free 3
 have SE:=Lib.hid (send_end (lo':=(((tot s.ks + p.size) % M64:Nat):Int)) (hi':=((tot s.ks / M64:Nat):Int) + (cr:Int)) HH.out rfl (by rw [HDiv.out];simp) HM.out F3.out B3.out HPo.out)
 clear z0 q0 q1 q2 q3 q4 r0 t0 t1 t2 t3 t4 R0 T0 T1 T2 T3 T4 HP HH HS HHd HDiv B3 ST3 F3 HR HM hbn hnb
 generalize (outK s.ks).length=o at *
 generalize tot s.ks / M64=hi at *
 generalize tot s.ks % M64=lo at *
 generalize (tot s.ks + p.size) % M64=lo' at *
 go_wp2_with fail
 go_ret
 exact SE.out
theorem send_any (b rb g:Nat) (s:LS) (w:World) (h:LAt w b rb g s) (hs:s.ok) (p:Pk) (hp:p.ok) (hpn:p.n=s.next) (hx:s.next≤5999):
  Calls Tryz.prog 183 #[.pointer (some ⟨b,0,none⟩),.int .u64 (p.size:Int),.agg #[.int .u64 (p.sent:Int),.int .u64 (p.first:Int),.int .u64 (p.deliv:Int),.int .u64 (p.at_:Int),.bool p.lim]] w (SendPost w b rb g s p):=by
 by_cases hks:s.ks=[]
 ·exact send_none b rb g s w h hs p hp hpn hx hks
 ·cases hmx:s.mixed
  ·exact send_plain b rb g s w h hs p hp hpn hx hks hmx _ rfl
  ·exact send_mixed b rb g s w h hs p hp hpn hx hks hmx
end Go.Proofs.YteoepabmnbkabaaGreatDoor
