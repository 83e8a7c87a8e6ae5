/- Lemmas. -/
import Derived.Test.YtjhiooggnpbecaaGreatDoorK440
set_option linter.unusedVariables false
set_option maxHeartbeats 16000000
set_option maxRecDepth 100000
namespace Go.Proofs.YtjhiooggnpbecaaGreatDoor
open Tryz
open Go.RowKit Cf
variable {l:List Pk} {n z:Nat} {B:Own} {D:SD} {s:SN} {v:Value} {W w w':World}
abbrev fF (n:Nat) (w:World) (v:Value) (l:List Pk):Prop:=w.ownsRow n 73 7 v l.length (pcs l)
theorem fF.kn (h:fF n w v l) (k:KN fE w w'):fF n w' v l:=by
 refine ⟨h.1,?_⟩;rcases h.2 with c | ⟨g,cap,cur,e,h1,hb,h2⟩
 ·exact .inl c
 ·exact .inr ⟨g,cap,cur,e,h1,k _ (by decide) _ _ hb,h2⟩
theorem fF.keep (h:fF n w v l) (k:Below ↑w w w'):fF n w' v l:=h.kn (KN.below _ k)
theorem fF.pr (h:fF n w v l):PR w v l:=by
 refine ⟨h.1,?_⟩;rcases h.2 with c | ⟨g,cap,cur,e,h1,h2⟩
 ·exact .inl c
 ·exact .inr ⟨g,cap,cur,e,Nat.zero_le _,h2⟩
theorem fF.mono {n':Nat} (h:fF n w v l) (hn:n'≤n):fF n' w v l:=by
 refine ⟨h.1,?_⟩;rcases h.2 with c | ⟨g,cap,cur,e,h1,h2⟩
 ·exact .inl c
 ·exact .inr ⟨g,cap,cur,e,Nat.le_trans hn h1,h2⟩
theorem b8.app (h:b8 W B D s w) (hB:B.up W.heap.size) (hr:fF W.heap.size w v l) (g:w.grownBy w' v.ownBlock):b8 W B D s w':=by
 have hl:=hr.lt;have b:aH B w w':=(aH.refl _ _).grown g (fun k e=>hB _ (hl k e).1);have n:KN [73] w w':=fun T hT z cs q=>q.grown g (fun e=>by
  rcases hr.2 with ⟨rfl,_⟩ | ⟨g',cap,cur,rfl,_,hb,_⟩
  ·cases e
  ·simp only [Value.ownBlock,Option.some.injEq] at e
   exact q.ty hb (by simpa using hT) e)
 exact ⟨h.at_.kn n (by decide) b,h.bel.trans b,fun T hT z cs q=>(h.kt T hT z cs q).grown g (fun e=>by have:=(hl z e.symm).1;have:=q.lt;omega)⟩
theorem b8.over {s':SN} (h:b8 W B D s w) (k:b8 w B D s' w'):b8 W B D s' w':=h.step ⟨k.at_,k.bel,k.kt⟩
theorem fF.app {q:Nat} {p:Pk} (hq:q=l.length + 1) (h:w.ownsRow n 73 7 v q (pcs l ++ Pk.cs p)):fF n w v (l ++ [p]):=by
 subst hq;unfold fF pcs;rw [List.flatMap_append,List.length_append,List.flatMap_singleton];exact h
def wOf (w:World) (b:Nat):Nat:=match w.cell? ⟨b,12,none⟩ with | some (.int _ n)=>n.toNat | _=>0
theorem GM (h:aK w B D s):wOf w D.b=s.w:=by
 unfold wOf;rw [h.b.cell (i:=12) (v:=↑s.w) rfl];simp
theorem SN.gos_not (h:s.goes=false) (k:Nat):SN.gos k s=(s,[]):=by
 cases k with
 | zero=>rfl
 | succ k=>rw [SN.gos,if_neg (by rw [h];decide)]
theorem SN.gos_yes (h:s.goes=true) (k:Nat):SN.gos (k + 1) s=((SN.gos k s.go1).1,s.pk :: (SN.gos k s.go1).2):=by rw [SN.gos,if_pos h]
def xV (W:World) (B:Own) (D:SD) (s:SN) (c:Setup) (k d:Nat) (v:Value) (wr:World):Prop:=
 ∃(j m:Nat) (r:SN) (l:List Pk),b8 W B D r wr∧r.ok c k m d∧fF W.heap.size wr v l∧s.run=((SN.gos j r).1,l ++ (SN.gos j r).2)∧r.w≤j∧r.L.next=s.L.next + l.length
def vN (W:World) (B:Own) (D:SD) (z:Nat) (w:World):Prop:=∃s,s.w=z∧b8 W B D s w
theorem nI (h:Hid (b8 W B D s w)):Hid (vN W B D s.w w):=lh ⟨s,rfl,h.out⟩
theorem SJ:∀w,Hid (vN W B D z w)→w.cell? ⟨D.b,12,none⟩=some ↑z:=fun w q=>by
 obtain ⟨s,rfl,h⟩:=q.out;exact h.at_.b.cell rfl
theorem SK:∀w,Hid (vN W B D z w)→w.cell? ⟨D.b,11,none⟩=some ↑(π D.p):=fun w q=>by
 obtain ⟨s,_,h⟩:=q.out;exact h.at_.b.cell rfl
theorem SN.take_same {x:Nat} (h:s.p.takeB x=false):{s with p:=s.p.takeS x}=s:=by
 have e:s.p.takeS x=s.p:=by
  unfold PS.takeB at h;unfold PS.takeS;rw [if_neg (of_decide_eq_false h)]
 rw [e]
def SN.taken (s:SN):SN:={s with p:=s.p.takeS s.size}
theorem LG {c:Setup} {k m d:Nat} (W:World) (h:aK W B D s) (ho:s.ok c k m d) (hr:rightC c=true) (hn:s.L.next + s.run.2.length≤5999):
  Calls prog 71 #[↑(π D.b)] W fun e w'=>∃v,e=.returned v∧fF W.heap.size w' v s.run.2∧b8 W B D s.run.1.rest w':=by
 obtain ⟨i0,hi,hz0,hz1,hz2⟩:=info_parts wV;have HI:=lh hi;have HZ0:=lh hz0;have HZ1:=lh hz1;have HZ2:=lh hz2;clear hi hz0 hz1 hz2;have HB:=lh h.size;have HR0:=lh hr;have HN:=lh hn;have S0:Hid (xV W B D s c k d (.slice none 0 0) W):=lh ⟨s.w,m,s,[],b8.start h,ho,World.ownsRow_nil W _ _ 7,rfl,Nat.le_refl _,rfl⟩;clear h ho hr hn;go_enter func71,ntmps71;go_wp2_with fail;go_loopw [3] (fun v wr=>xV W B D s c k d v wr) (fun _ wr=>wOf wr D.b)
 case atStart=>exact S0.out
 case round=>
  clear S0;obtain ⟨j,m',r,l,hi,ho,hrow,hrun,hj,hnx⟩:=hrel;obtain ⟨vp,vc,rfl⟩:=hrow.pr.form;have I0:=lh hi;have HO:=lh ho;have HRow:=lh hrow;have HRun:=lh hrun;have HJ:=lh hj;have HNx:=lh hnx;have M0:=lh ((b8.start hi.at_).to ((aB.drew _).below _));have X0:=nI M0;have hsm:=ho.small;have hw:r.w≤18446744073709551615:=by omega
  have hsz:r.size≤18446744073709551615:=by unfold SN.size;omega
  have HSz:=lh (fun w (q:aK w B D r)=>xR w q);have HFi:=lh (fun w (q:aK w B D r)=>LF r.size w q hsz);have HTk:Hid (∀w,aK w B D r→Calls prog 127 #[↑(π D.p),↑r.size] w fun e w'=>e=.returned (.bool (r.p.takeB r.size))∧Hid (bM w B D r.taken w')):=lh (fun w q=>(JB D.p r.size r.p w q.p ho.pok hsz).mono (by rintro e w' hh;exact ⟨hh.e,lh (q.pc hh.blk hh.gr)⟩));have HIn:=lh (fun w (q:aK w B D r)=>eC w q);have HLm:Hid (∀w,aK w B D r→Calls prog 129 #[↑(π D.a),↑r.L.fl] w fun e w'=>e=.returned (.tuple #[])∧Hid (bM w B D {r with a:=r.a.limit r.L.fl} w')):=lh (fun w q=>(CX D.a r.L.fl r.a w q.a ho.a r.fl_le).mono (by rintro e w' ⟨h1,h2,h3⟩;exact ⟨h1,lh (q.ra h2 h3)⟩));have q12:=SJ (W:=wr) (B:=B) (D:=D) (z:=r.w);have q11:=SK (W:=wr) (B:=B) (D:=D) (z:=r.w);clear hi ho hrow hrun hj hnx hsm hw;obtain ⟨z,hz⟩:∃z,r.w=z:=⟨_,rfl⟩;have HZ:=lh hz;rw [hz] at q12 q11;by_cases c0:r.w=0
  ·have d1:decide ((0:Int) < (z:Int))=false:=decide_eq_false (by omega)
   have d2:decide (0 < z)=false:=decide_eq_false (by omega);have hgo:r.goes=false:=by unfold SN.goes SN.fits;rw [hz,d2];rfl
   have HE:Hid (s.run=(r,l)):=lh (by rw [HRun.out,SN.gos_not hgo,List.append_nil]);have HT:Hid (r.rest={r with a:=r.a.limit r.L.fl}):=lh (by unfold SN.rest;rw [if_pos c0]);have e0:((z:Int) == 0)=true:=by rw [← hz,c0];rfl
   clear hgo c0 hz;go_wp2_with fail;refine rhd (S:=(fun w'=>Hid (vN wr B D z w'))) (by rw [← HZ.out];exact X0) (fun hHeld=>?_);refine tkc 0 ?_;refine tkc 1 ?_;refine tkc 2 ?_;refine tks 3 ?_;refine tkc 4 ?_;refine tkc 5 ?_;refine tku 6 ?_;refine tku 7 ?_;refine tku 8 ?_;refine tku 9 ?_;refine tkc 10 ?_;refine tkc 11 ?_;refine tku 12 ?_;refine tku 13 ?_;refine tku 14 ?_;refine tku 15 ?_;refine tku 16 ?_;refine tku 17 ?_;refine tku 18 ?_;refine tkc 19 ?_;refine wpAnyH_done (by kernel_rfl) ?_ _;have c12:=M0.out.at_.b.cell (i:=12) (v:=↑z) (by rw [← HZ.out];rfl);go_wp2_with fail;have Y0:=lh (M0.out.to ((aB.drew _).below _));have p9:=rG (W:=wr) (B:=B) (D:=D) (i:=9) (v:=↑(π D.a)) (fun _ _=>rfl);go_region_held3 (fun w'=>Hid (oB wr B D w'))
    (first | with_reducible exact (bE Y2) | with_reducible exact (bE Y1) | with_reducible exact (bE Y0))
    (first
     | (go_at_call 19;(with_reducible refine (HIn.out _ Y0.out.at_).mono ?_);rintro e w8 ⟨rfl,hb⟩;have Y1:=lh (Y0.out.to hb);clear hb)
     | (go_at_call 129;(with_reducible refine (HLm.out _ Y1.out.at_).mono ?_);rintro e w9 ⟨rfl,ha⟩;have Y2:=lh (Y1.out.step ha.out);clear ha))
   go_wp2_with fail;go_ret;exact ⟨_,rfl,by rw [HE.out];exact HRow.out.kn Y2.out.kt,by rw [HE.out,HT.out];exact I0.out.over Y2.out⟩
  ·have d1:decide ((0:Int) < (z:Int))=true:=decide_eq_true (by omega)
   have d2:decide (0 < z)=true:=decide_eq_true (by omega);have e0:((z:Int) == 0)=false:=beq_eq_false_iff_ne.2 (by omega);have HW:Hid (r.w≠0):=lh c0;have HT:Hid (r.rest=r):=lh (by unfold SN.rest;rw [if_neg c0]);have hf:r.fits=decide (Pl.addS r.size r.L.fl≤r.e.cwnd):=by
    unfold SN.fits;rw [hz,d2,show Pl.addS r.L.fl r.size=Pl.addS r.size r.L.fl by unfold Pl.addS;rw [Nat.add_comm]];rfl
   rw [← hf] at HFi;clear hf c0 hz;rcases hfb:r.fits with _ | _
   ·rw [hfb] at HFi
    have hgo:r.goes=false:=by unfold SN.goes;rw [hfb];rfl
    have HE:Hid (s.run=(r,l)):=lh (by rw [HRun.out,SN.gos_not hgo,List.append_nil]);clear hgo hfb HTk;go_wp2_with fail;refine rhd (S:=(fun w'=>Hid (vN wr B D z w'))) (by rw [← HZ.out];exact X0) (fun hHeld=>?_);refine tkc 0 ?_;refine tkc 1 ?_;refine tkc 2 ?_;refine tks 3 ?_;refine tkc 4 ?_;refine tkc 5 ?_;refine tkc 6 ?_;refine tkc 7 ?_;refine rdy [8] ?_;refine cns (fun K hK=>?_) .nil;go_simp;refine (HSz.out _ M0.out.at_).mono ?_;rintro e w1 ⟨rfl,hb⟩;have M1:=lh (M0.out.to hb);clear hb;go_wp2_with fail;refine bck hK (by rw [← HZ.out];exact nI M1) (fun hHeld=>?_);clear hK;refine rdy [9] ?_;refine cns (fun K hK=>?_) .nil;go_simp;refine (HFi.out _ M1.out.at_).mono ?_;rintro e w2 ⟨rfl,hb⟩;have M2:=lh (M1.out.to hb);clear hb;go_wp2_with fail;refine bck hK (by rw [← HZ.out];exact nI M2) (fun hHeld=>?_);clear hK;refine tkc 10 ?_;refine tkc 11 ?_;refine tku 12 ?_;refine tku 13 ?_;refine tku 14 ?_;refine tku 15 ?_;refine tku 16 ?_;refine tku 17 ?_;refine tku 18 ?_;refine tkc 19 ?_;refine wpAnyH_done (by kernel_rfl) ?_ _;have c12:=M2.out.at_.b.cell (i:=12) (v:=↑z) (by rw [← HZ.out];rfl);go_wp2_with fail;go_ret;exact ⟨_,rfl,by rw [HE.out];exact HRow.out.kn M2.out.kt,by rw [HE.out,HT.out];exact I0.out.over M2.out⟩
   ·rw [hfb] at HFi
    obtain ⟨tb,htb⟩:∃tb,r.p.takeB r.size=tb:=⟨_,rfl⟩;rw [htb] at HTk;have HFb:=lh hfb;have HTb:=lh htb;clear hfb htb;go_wp2_with fail;refine rhd (S:=(fun w'=>Hid (vN wr B D z w'))) (by rw [← HZ.out];exact X0) (fun hHeld=>?_);refine tkc 0 ?_;refine tkc 1 ?_;refine tkc 2 ?_;refine tks 3 ?_;refine tkc 4 ?_;refine tkc 5 ?_;refine tkc 6 ?_;refine tkc 7 ?_;refine rdy [8] ?_;refine cns (fun K hK=>?_) .nil;go_simp;refine (HSz.out _ M0.out.at_).mono ?_;rintro e w1 ⟨rfl,hb⟩;have M1:=lh (M0.out.to hb);clear hb;go_wp2_with fail;refine bck hK (by rw [← HZ.out];exact nI M1) (fun hHeld=>?_);clear hK;refine rdy [9] ?_;refine cns (fun K hK=>?_) .nil;go_simp;refine (HFi.out _ M1.out.at_).mono ?_;rintro e w2 ⟨rfl,hb⟩;have M2:=lh (M1.out.to hb);clear hb;go_wp2_with fail;refine bck hK (by rw [← HZ.out];exact nI M2) (fun hHeld=>?_);clear hK;refine tkc 10 ?_;refine tkc 11 ?_;refine tkc 12 ?_;refine tkc 13 ?_;refine tkc 14 ?_;refine tks 15 ?_;refine tkc 16 ?_;refine rdy [17] ?_;refine cns (fun K hK=>?_) .nil;go_simp;refine (HSz.out _ M2.out.at_).mono ?_;rintro e w3 ⟨rfl,hb⟩;have M3:=lh (M2.out.to hb);clear hb;go_wp2_with fail;refine bck hK (by rw [← HZ.out];exact nI M3) (fun hHeld=>?_);clear hK;refine rdy [18] ?_;refine cns (fun K hK=>?_) .nil;go_simp;refine (HTk.out _ M3.out.at_).mono ?_;rintro e w4 ⟨rfl,ha⟩;have M4:=lh (M3.out.step ha.out);have X4:Hid (vN wr B D z w4):=(by rw [← HZ.out];exact nI (s:=r.taken) M4);clear ha;go_wp2_with fail;refine bck hK X4 (fun hHeld=>?_);clear hK;refine tkc 19 ?_;refine wpAnyH_done (by kernel_rfl) ?_ _;clear X0 X4 HSz HFi HTk;cases tb
    ·have hgo:r.goes=false:=by unfold SN.goes;rw [HFb.out,HTb.out];rfl
     have HE:Hid (s.run=(r,l)):=lh (by rw [HRun.out,SN.gos_not hgo,List.append_nil]);have HS:Hid (r.taken=r):=lh (SN.take_same HTb.out);clear hgo;rw [HS.out] at M4;have c12:=M4.out.at_.b.cell (i:=12) (v:=↑z) (by rw [← HZ.out];rfl);go_wp2_with fail;go_ret;exact ⟨_,rfl,by rw [HE.out];exact HRow.out.kn M4.out.kt,by rw [HE.out,HT.out];exact I0.out.over M4.out⟩
    ·have hgo:r.goes=true:=by unfold SN.goes;rw [HFb.out,HTb.out];rfl
     have HG:=lh hgo;have HP:=lh (SN.size_pos HO.out HR0.out HFb.out);have HO1:=lh (SN.go_ok HO.out HR0.out hgo).1;obtain ⟨j',rfl⟩:∃j',j=j' + 1:=⟨j - 1,by have:=HJ.out;have:=HW.out;omega⟩;have HRun1:Hid (s.run=((SN.gos j' r.go1).1,(l ++ [r.pk]) ++ (SN.gos j' r.go1).2)):=lh (by rw [HRun.out,SN.gos_yes hgo];simp);have HLen:Hid (l.length≤5999∧r.L.next≤5999):=lh (by
      have h1:=HN.out;rw [HRun1.out] at h1;have h2:=HNx.out;simp only [List.length_append,List.length_cons,List.length_nil] at h1;omega)
     have HPk:Hid ((r.taken.pkx r.size).ok):=lh (by
      have h1:=HO1.out.st r.pk (by show r.pk∈r.L.out ++ [r.pk];simp);have h2:=HLen.out.2;exact ⟨show r.L.next≤100000 by omega,hsz,h1.sent,h1.first,h1.deliv,h1.at_⟩)
     have HPu:Hid (∀w,aK w B D r.taken→Calls prog 128 #[↑(π D.b),↑r.size] w fun e w'=>e=.returned (.agg (#[↑r.pk.n,↑r.pk.size,↑r.pk.sent,↑r.pk.first,↑r.pk.deliv,↑r.pk.at_,.bool r.pk.lim]))∧Hid (bM w B D r.go1 w')):=lh (fun w q=>(O0 r.size w q HP.out.2.2.1 (by have:=HO.out.small;show r.w≤_;omega) HLen.out.2 HPk.out).mono (by rintro e w' ⟨h1,h2⟩;exact ⟨h1,lh ⟨h2.at_,h2.bel,h2.kt⟩⟩));have HSz1:Hid (∀w,aK w B D r.taken→Calls prog 51 #[↑(π D.b)] w fun e w'=>e=.returned ↑r.size∧Below ↑w w w'):=lh (fun w q=>xR (s:=r.taken) w q);clear hgo hsz;go_wp2_with fail;refine (HSz1.out _ M4.out.at_).mono ?_;rintro e w5 ⟨rfl,hb⟩;have M5:=lh (M4.out.to hb);clear hb;go_wp2_with fail;refine (HPu.out _ M5.out.at_).mono ?_;rintro e w6 ⟨rfl,ha⟩;have M6:=lh (M5.out.step ha.out);have R6:=lh (HRow.out.kn M6.out.kt);have HW6:=lh (I0.out.over M6.out);clear ha;generalize hp:r.pk=p at *;have HPe:=lh hp;clear hp;have R7:=lh (R6.out.keep (aC w6 (.cells #[↑p.n,↑p.size,↑p.sent,↑p.first,↑p.deliv,↑p.at_,.bool p.lim] 73)));have M7:=lh (HW6.out.to (aC w6 (.cells #[↑p.n,↑p.size,↑p.sent,↑p.first,↑p.deliv,↑p.at_,.bool p.lim] 73)));have HNw:=lh (Blk.new w6 73 #[↑p.n,↑p.size,↑p.sent,↑p.first,↑p.deliv,↑p.at_,.bool p.lim]);have HOne:Hid (∀u∈[↑p.n,↑p.size,↑p.sent,↑p.first,↑p.deliv,↑p.at_,Value.bool p.lim],u.oneCell'=true):=lh (Itm.one p);have hl5:=HLen.out.1;have HBs:Hid (W.heap.size≤(w6.alloc (.cells #[↑p.n,↑p.size,↑p.sent,↑p.first,↑p.deliv,↑p.at_,.bool p.lim] 73)).heap.size):=lh (by
      have h1:=I0.out.bel.size;have h2:=M6.out.bel.size;have h3:=(aC w6 (.cells #[↑p.n,↑p.size,↑p.sent,↑p.first,↑p.deliv,↑p.at_,.bool p.lim] 73)).size;omega)
     go_wp2_with (at_builtin;refine wpList_append_own_at _ rfl (.tmp 24) (.tmp 29) 67 rfl W.heap.size 73 i0 (.agg #[↑ζ,↑ζ,↑ζ,↑ζ,↑ζ,↑ζ,.bool false]) 7 56 underlying67 HI.out HZ0.out HZ1.out HZ2.out rfl (by decide) (.slice vp l.length vc) l.length (pcs l) rfl R7.out ⟨w6.heap.size,0,none⟩ 1 1 [↑p.n,↑p.size,↑p.sent,↑p.first,↑p.deliv,↑p.at_,.bool p.lim] rfl (by rfl) (World.news_of_block HNw.out) HOne.out (by unfold maxLen;omega) (by omega) HBs.out ?_;intro v' w8 hown hgr hnil hat;have R8:Hid (fF W.heap.size w8 v' (l ++ [p])):=lh (fF.app rfl hown);have M8:=lh (M7.out.app HB.out R7.out hgr);clear hown hgr hnil hat)
     go_roundw
     case rel=>
      refine ⟨j',m' + 1,r.go1,l ++ [p],M8.out,HO1.out,R8.out,HRun1.out,?_,?_⟩
      ·have h1:=HP.out.1
       have h2:=HJ.out;show r.w - r.size≤j'
       omega
      ·have h1:=HNx.out
       show r.L.next + 1=s.L.next + (l ++ [p]).length
       rw [List.length_append,List.length_singleton];omega
     case measure=>
      rw [GM M8.out.at_,GM I0.out.at_];have h1:=HP.out.1;have h2:=HP.out.2.2.1;show r.w - r.size < r.w
      omega
end Go.Proofs.YtjhiooggnpbecaaGreatDoor
