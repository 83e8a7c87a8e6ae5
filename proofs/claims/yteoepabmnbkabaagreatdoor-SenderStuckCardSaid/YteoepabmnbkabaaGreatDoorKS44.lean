/- 1 texts put together: what each one says stands ahead of it. -/
import Derived.Test.YteoepabmnbkabaaGreatDoorKS43
import Derived.Test.YteoepabmnbkabaaGreatDoorKS17
import Derived.Deep.AppendLies
set_option linter.unusedVariables false
namespace Go.Proofs.YteoepabmnbkabaaGreatDoor
open Go.RowKit Pl
theorem far1 {w:World} {b i L k:Nat} {u v:Value} (h:w.cell? ⟨b,i,none⟩=some v) (n:b≠L):(w.setCell ⟨L,k,none⟩ u).cell? ⟨b,i,none⟩=some v:=far h n
theorem add_at (m x:Nat) (hm:m≤18446744073709551615) (hx:x≤18446744073709551615) (W:World):
  Calls Tryz.prog 57 #[.slice (some ⟨W.heap.size,0,none⟩) 2 2] (W.alloc (.cells #[.int .u64 (m:Int),.int .u64 (x:Int)] 22)).drew fun e w'=>e=.returned (.int .u64 ((addS m x:Nat):Int))∧(W.alloc (.cells #[.int .u64 (m:Int),.int .u64 (x:Int)] 22)).drew=w':=by
 rw [← sumS_two]
 refine fix_Add W.heap.size 0 2 [m,x] _ (by simp) (by simp;omega) ?_
 intro i hi
 match i,hi with
 | 0,_=>exact cell_drew (new_cell rfl (by simp))
 | 1,_=>exact cell_drew (new_cell rfl (by simp))
def AckRel (w:World) (b:Nat) (s:RaS) (L:List Pk) (k:Nat) (wr:World):Prop:=
 Blk wr w.heap.size 108 #[.int .u64 0,.int .u64 0,.int .u64 0,.int .u64 0,.bool false]∧RaAt wr b ⟨sumP s.n (L.take k),s.last,s.first,s.mark⟩∧w.grownBy wr (some b)
structure RaAckPost (w:World) (b:Nat) (x:Smp) (s:RaS) (e:Ending) (w':World):Prop where
 e:e=.returned (.tuple #[.agg x.cells,.bool true])
 blk:RaAt w' b s
 gr:w.grownBy w' (some b)
set_option maxHeartbeats 2000000 in
theorem ra_Ack (b now c:Nat) (p:Option Addr) (q:Pk) (l:List Pk) (s:RaS) (w:World) (h:RaAt w b s) (hs:s.ok) (hnow:now≤18446744073709551615) (hl:Its w p (q :: l)) (hu:∀x∈q :: l,x.u64) (hp:∀a,p=some a→a.block≠b) (hc:l.length + 1≤c) (hm:c≤9223372036854775807):
  Calls Tryz.prog 61 #[.pointer (some ⟨b,0,none⟩),.int .u64 (now:Int),.slice p (l.length + 1) c] w (RaAckPost w b (s.ackT now q l) (s.ack now q l)):=by
 obtain ⟨pb,off,rfl,hb,hcs⟩:=hl (by simp)
 have HP:Hid (pb≠b):=Lib.hid (hp _ rfl)
 have HL:=Lib.hid hl
 have HC:=Lib.hid hcs
 have HZ:=Lib.hid hb
 have HU:=Lib.hid hu
 have HS:=Lib.hid hs
 have HH:=Lib.hid h
 clear hl hcs hb hp hu hs
 have HR:=Lib.hid (Blk.new w 108 #[.int .u64 0,.int .u64 0,.int .u64 0,.int .u64 0,.bool false])
 have HB:=Lib.hid (Blk.alloc h (.cells #[.int .u64 0,.int .u64 0,.int .u64 0,.int .u64 0,.bool false] 108))
 have HG:=Lib.hid (gr_alloc (gr_refl w (some b)) (.cells #[.int .u64 0,.int .u64 0,.int .u64 0,.int .u64 0,.bool false] 108))
 have hblt:=Blk.lt h
 have HNb:Hid (w.heap.size≠b):=Lib.hid (by omega)
 clear h
 have hz:(((l.length:Int) + 1) == 0)=false:=beq_eq_false_iff_ne.2 (by omega)
 go_enter Tryz.func61,Tryz.ntmps61
 go_wp2_with fail
 go_loopw [21] (fun i wr=>∃k:Nat,i=.int .i64 (k:Int)∧k≤l.length + 1∧AckRel w b s (q :: l) k wr) (fun i _=>l.length + 1 - (intOf i).toNat)
 case atStart=>exact ⟨0,rfl,Nat.zero_le _,HR.out,HB.out,HG.out⟩
 case round=>
  obtain ⟨k,rfl,hk,h0,h1,h2⟩:=hrel
  have HR1:=Lib.hid h0
  have HB1:=Lib.hid h1
  have HG1:=Lib.hid h2
  have hsz:=h2.size
  clear h0 h1 h2 HR HB HG
  by_cases hlt:k < l.length + 1
  ·have H1:=pk_cells (k:=k) HC.out (by simpa using hlt) (o:=off + k * 7) (by omega)
   have d0:=(World.grownBy.cell_far HG1.out ⟨pb,_,none⟩ HZ.out (by intro e;injection e with e;exact HP.out e)).trans (H1 0 (by omega))
   have d1:=(World.grownBy.cell_far HG1.out ⟨pb,_,none⟩ HZ.out (by intro e;injection e with e;exact HP.out e)).trans (H1 1 (by omega))
   have d2:=(World.grownBy.cell_far HG1.out ⟨pb,_,none⟩ HZ.out (by intro e;injection e with e;exact HP.out e)).trans (H1 2 (by omega))
   have d3:=(World.grownBy.cell_far HG1.out ⟨pb,_,none⟩ HZ.out (by intro e;injection e with e;exact HP.out e)).trans (H1 3 (by omega))
   have d4:=(World.grownBy.cell_far HG1.out ⟨pb,_,none⟩ HZ.out (by intro e;injection e with e;exact HP.out e)).trans (H1 4 (by omega))
   have d5:=(World.grownBy.cell_far HG1.out ⟨pb,_,none⟩ HZ.out (by intro e;injection e with e;exact HP.out e)).trans (H1 5 (by omega))
   have d6:=(World.grownBy.cell_far HG1.out ⟨pb,_,none⟩ HZ.out (by intro e;injection e with e;exact HP.out e)).trans (H1 6 (by omega))
   clear H1
   have hx:((q :: l).getD k Itm.z).u64:=by
    have hlt':k < (q :: l).length:=by simpa using hlt
    have e:(q :: l).getD k Itm.z=(q :: l)[k]:=by rw [List.getD_eq_getElem?_getD,List.getElem?_eq_getElem hlt'];rfl
    rw [e];exact HU.out _ (List.getElem_mem hlt')
   have HX:=hx.size
   clear hx
   have HT:=Lib.hid (sumP_take s.n (l:=q :: l) (k:=k) (by simpa using hlt))
   have hle:sumP s.n ((q :: l).take k)≤18446744073709551615:=sumP_le HS.out.n
   generalize (q :: l).getD k Itm.z=x at *
   generalize sumP s.n ((q :: l).take k)=m at *
   simp only [Pk.cs,List.getElem?_cons_succ,List.getElem?_cons_zero,Nat.add_zero] at d0 d1 d2 d3 d4 d5 d6
   have i0:(0:Int)≤(k:Int):=by omega
   have i1:(k:Int) < (l.length:Int) + 1:=by omega
   have HN:=Lib.hid (Blk.new wr 47 #[.int .u64 (x.n:Int),.int .u64 (x.size:Int),.int .u64 (x.sent:Int),.int .u64 (x.first:Int),.int .u64 (x.deliv:Int),.int .u64 (x.at_:Int),.bool x.lim])
   have HB2:=Lib.hid (Blk.alloc HB1.out (.cells #[.int .u64 (x.n:Int),.int .u64 (x.size:Int),.int .u64 (x.sent:Int),.int .u64 (x.first:Int),.int .u64 (x.deliv:Int),.int .u64 (x.at_:Int),.bool x.lim] 47))
   have HR2:=Lib.hid (Blk.alloc HR1.out (.cells #[.int .u64 (x.n:Int),.int .u64 (x.size:Int),.int .u64 (x.sent:Int),.int .u64 (x.first:Int),.int .u64 (x.deliv:Int),.int .u64 (x.at_:Int),.bool x.lim] 47))
   have HG2:=Lib.hid (gr_alloc HG1.out (.cells #[.int .u64 (x.n:Int),.int .u64 (x.size:Int),.int .u64 (x.sent:Int),.int .u64 (x.first:Int),.int .u64 (x.deliv:Int),.int .u64 (x.at_:Int),.bool x.lim] 47))
   go_wp2_with fail
   generalize (wr.alloc (.cells #[.int .u64 (x.n:Int),.int .u64 (x.size:Int),.int .u64 (x.sent:Int),.int .u64 (x.first:Int),.int .u64 (x.deliv:Int),.int .u64 (x.at_:Int),.bool x.lim] 47))=wa at *
   clear d0 d1 d2 d3 d4 d5 d6 HB1 HR1 HG1
   have e0:=Blk.cell HB2.out (i:=0) (v:=.int .u64 (m:Int)) rfl
   have e1:=HN.out.cell (i:=1) (v:=.int .u64 (x.size:Int)) rfl
   have f0:=Blk.free HB2.out 0
   have hl1:=Blk.lt HB2.out
   have hl2:=HN.out.lt
   have HA:=Lib.hid (add_at m x.size hle HX wa)
   generalize addS m x.size=m' at *
   go_region_with (first | (go_at_call 57;with_reducible refine (HA.out).mono ?_;rintro e w' ⟨rfl,rfl⟩))
   all_goals
    have J0:=Lib.hid (((HR2.out.set_other 0 (.int .u64 (m':Int)) HNb.out).alloc (.cells #[.int .u64 (m:Int),.int .u64 (x.size:Int)] 22)).drew)
    have J1:Hid (RaAt _ b ⟨m',s.last,s.first,s.mark⟩):=Lib.hid (((Blk.set HB2.out 0 (.int .u64 (m':Int))).alloc (.cells #[.int .u64 (m:Int),.int .u64 (x.size:Int)] 22)).drew)
    have J2:=Lib.hid (gr_drew (gr_alloc (gr_set HG2.out 0 (.int .u64 (m':Int))) (.cells #[.int .u64 (m:Int),.int .u64 (x.size:Int)] 22)))
    go_wp2_with fail
    go_roundw
    case rel=>exact ⟨k + 1,by go_num,by omega,J0.out,by rw [HT.out];exact J1.out,J2.out⟩
    case measure=>simp [intOf];omega
  ·obtain rfl:k=l.length + 1:=by omega
   have e:(q :: l).take (l.length + 1)=q :: l:=List.take_of_length_le (by simp)
   rw [e] at HB1
   clear e
   have HI:Hid (Its wr (some ⟨pb,off,none⟩) (q :: l)):=Lib.hid (fun _=>⟨pb,off,rfl,Nat.lt_of_lt_of_le HZ.out HG1.out.size,fun i j hi hj=>(World.grownBy.cell_far HG1.out ⟨pb,_,none⟩ HZ.out (by intro e;injection e with e;exact HP.out e)).trans (HC.out i j hi hj)⟩)
   have HW:=Lib.hid (ra_newest (some ⟨pb,off,none⟩) c q l wr HI.out hc hm)
   have HTo:=newestS_ok (l:=l) (HU.out q List.mem_cons_self).st (fun x hx=>HU.out x (List.mem_cons_of_mem _ hx))
   have hM:sumP s.n (q :: l)≤18446744073709551615:=sumP_le HS.out.n
   have HX:Hid (s.ack now q l=⟨sumP s.n (q :: l),now,(newestS q.st l).sent,dropM (sumP s.n (q :: l)) s.mark⟩):=Lib.hid rfl
   have HY:Hid (s.ackT now q l=smpOf now (sumP s.n (q :: l)) (newestS q.st l)):=Lib.hid rfl
   clear HC HP HL HU HI HZ
   generalize sumP s.n (q :: l)=m at *
   generalize newestS q.st l=t at *
   generalize s.ack now q l=s2 at *
   generalize s.ackT now q l=x2 at *
   have hsz2:=HG1.out.size
   have hbl:=Blk.lt HB1.out
   go_wp2_with fail
   refine (HW.out).mono ?_
   rintro e w2 ⟨rfl,hb2⟩
   have HR2:=Lib.hid ((HR1.out.keep hb2).alloc (.cells t.cells 45))
   have HB2:=Lib.hid ((Blk.keep HB1.out hb2).alloc (.cells t.cells 45))
   have HG2:=Lib.hid (gr_alloc (gr_trans HG1.out (gr_below hb2 (some b))) (.cells t.cells 45))
   have HN:=Lib.hid (Blk.new w2 45 t.cells)
   have hb2s:=hb2.size
   have HNs:Hid (b≠w2.heap.size):=Lib.hid (by omega)
   have HNr:Hid (w.heap.size≠w2.heap.size):=Lib.hid (by have:=HR1.out.lt;omega)
   clear hb2 HW HR1 HB1 HG1
   unfold St.cells at HR2 HB2 HG2 HN ⊢
   go_wp2_with fail
   generalize (w2.alloc (.cells #[.int .u64 (t.sent:Int),.int .u64 (t.first:Int),.int .u64 (t.deliv:Int),.int .u64 (t.at_:Int),.bool t.lim] 45))=wa at *
   have n0:=HN.out.cell (i:=0) (v:=.int .u64 (t.sent:Int)) rfl
   have b1:=Blk.cell HB2.out (i:=1) (v:=.int .u64 (s.last:Int)) rfl
   have b2:=Blk.cell HB2.out (i:=2) (v:=.int .u64 (s.first:Int)) rfl
   have f1:=Blk.free HB2.out 1
   have f2:=Blk.free HB2.out 2
   have n0d:=cell_drew n0
   go_region_held3 (fun w'=>w'.cell? ⟨w2.heap.size,0,none⟩=some (.int .u64 (t.sent:Int)))
    (first | with_reducible exact n0d | with_reducible exact far1 n0d HNs.out.symm | with_reducible exact far1 (far1 n0d HNs.out.symm) HNs.out.symm | with_reducible exact cell_drew (far1 n0 HNs.out.symm) | with_reducible exact cell_drew (far1 (far1 n0 HNs.out.symm) HNs.out.symm))
    (first | fail)
   have HR3:=Lib.hid (((HR2.out.set_other 1 (.int .u64 (now:Int)) HNb.out).set_other 2 (.int .u64 (t.sent:Int)) HNb.out).drew)
   have HB3:Hid (RaAt _ b ⟨m,now,t.sent,s.mark⟩):=Lib.hid (((Blk.set HB2.out 1 (.int .u64 (now:Int))).set 2 (.int .u64 (t.sent:Int))).drew)
   have HN3:=Lib.hid (((HN.out.set_other 1 (.int .u64 (now:Int)) HNs.out.symm).set_other 2 (.int .u64 (t.sent:Int)) HNs.out.symm).drew)
   have HG3:=Lib.hid (gr_drew (gr_set (gr_set HG2.out 1 (.int .u64 (now:Int))) 2 (.int .u64 (t.sent:Int))))
   generalize ((wa.setCell ⟨b,1,none⟩ (.int .u64 (now:Int))).setCell ⟨b,2,none⟩ (.int .u64 (t.sent:Int))).drew=wb at *
   clear HR2 HB2 HN HG2 n0 n0d b1 b2 f1 f2
   have b0:=Blk.cell HB3.out (i:=0) (v:=.int .u64 (m:Int)) rfl
   have b3:=Blk.cell HB3.out (i:=3) (v:=.int .u64 (s.mark:Int)) rfl
   have f3:=Blk.free HB3.out 3
   have HSm:Hid (∀w,Calls Tryz.prog 131 #[.int .u64 (now:Int),.int .u64 (m:Int),.agg #[.int .u64 (t.sent:Int),.int .u64 (t.first:Int),.int .u64 (t.deliv:Int),.int .u64 (t.at_:Int),.bool t.lim]] w fun e w'=>e=.returned (.agg #[.int .u64 (x2.deliv:Int),.int .u64 (x2.interval:Int),.int .u64 (x2.rate:Int),.int .u64 (x2.rtt:Int),.bool x2.lim])∧Below w.heap.size w w'):=Lib.hid (fun w=>by rw [HY.out];exact ra_sample now m t w hnow hM HTo)
   clear HTo HY
   by_cases hd:s.mark < m
   ·have HD:=Lib.hid (show dropM m s.mark=0 by unfold dropM;rw [if_pos hd])
    have hq:decide (s.mark < m)=true:=by simpa using hd
    clear hd
    go_wp2_with fail
    go_region
    go_wp2_with fail
    have HR4:=Lib.hid ((HR3.out.set_other 3 (.int .u64 0) HNb.out).drew)
    have HB4:Hid (RaAt _ b s2):=Lib.hid (by rw [HX.out];rw [HD.out];exact (Blk.set HB3.out 3 (.int .u64 0)).drew)
    have HN4:=Lib.hid ((HN3.out.set_other 3 (.int .u64 0) HNs.out.symm).drew)
    have HG4:=Lib.hid (gr_drew (gr_set HG3.out 3 (.int .u64 0)))
    generalize (wb.setCell ⟨b,3,none⟩ (.int .u64 0)).drew=wd at *
    clear HR3 HB3 HN3 HG3 b0 b3 f3
    have HC0:Hid (s2.cells[0]? =some (.int .u64 (m:Int))):=Lib.hid (by rw [HX.out];rfl)
    have b0:=Blk.cell HB4.out (i:=0) (v:=.int .u64 (m:Int)) HC0.out
    have k0:=HN4.out.cell (i:=0) (v:=.int .u64 (t.sent:Int)) rfl
    have k1:=HN4.out.cell (i:=1) (v:=.int .u64 (t.first:Int)) rfl
    have k2:=HN4.out.cell (i:=2) (v:=.int .u64 (t.deliv:Int)) rfl
    have k3:=HN4.out.cell (i:=3) (v:=.int .u64 (t.at_:Int)) rfl
    have k4:=HN4.out.cell (i:=4) (v:=.bool t.lim) rfl
    have cb0:=cell_drew b0
    have ck0:=cell_drew k0
    have ck1:=cell_drew k1
    have ck2:=cell_drew k2
    have ck3:=cell_drew k3
    have ck4:=cell_drew k4
    go_wp2_with fail
    go_region_held3 (fun w'=>w'.cell? ⟨b,0,none⟩=some (.int .u64 (m:Int))∧w'.cell? ⟨w2.heap.size,0,none⟩=some (.int .u64 (t.sent:Int))∧w'.cell? ⟨w2.heap.size,1,none⟩=some (.int .u64 (t.first:Int))∧w'.cell? ⟨w2.heap.size,2,none⟩=some (.int .u64 (t.deliv:Int))∧w'.cell? ⟨w2.heap.size,3,none⟩=some (.int .u64 (t.at_:Int))∧w'.cell? ⟨w2.heap.size,4,none⟩=some (.bool t.lim))
     (first | with_reducible exact ⟨cb0,ck0,ck1,ck2,ck3,ck4⟩ | with_reducible exact ⟨g0,j0,j1,j2,j3,j4⟩ | with_reducible exact ⟨far5 g0 HNb.out.symm,far5 j0 HNr.out.symm,far5 j1 HNr.out.symm,far5 j2 HNr.out.symm,far5 j3 HNr.out.symm,far5 j4 HNr.out.symm⟩)
     (first | (go_at_call 131;refine (HSm.out _).mono ?_;rintro e w5 ⟨rfl,hb5⟩;have D0:=Lib.hid (HR4.out.drew.keep hb5);have D1:=Lib.hid ((Blk.drew HB4.out).keep hb5);have D2:=Lib.hid (HN4.out.drew.keep hb5);have D3:=Lib.hid (gr_trans (gr_drew HG4.out) (gr_below hb5 (some b)));clear hb5;have g0:=D1.out.cell (i:=0) (v:=.int .u64 (m:Int)) HC0.out;have j0:=D2.out.cell (i:=0) (v:=.int .u64 (t.sent:Int)) rfl;have j1:=D2.out.cell (i:=1) (v:=.int .u64 (t.first:Int)) rfl;have j2:=D2.out.cell (i:=2) (v:=.int .u64 (t.deliv:Int)) rfl;have j3:=D2.out.cell (i:=3) (v:=.int .u64 (t.at_:Int)) rfl;have j4:=D2.out.cell (i:=4) (v:=.bool t.lim) rfl;have t0:=D0.out.cell (i:=0) (v:=.int .u64 0) rfl;have y0:=D0.out.free 0;have t1:=D0.out.cell (i:=1) (v:=.int .u64 0) rfl;have y1:=D0.out.free 1;have t2:=D0.out.cell (i:=2) (v:=.int .u64 0) rfl;have y2:=D0.out.free 2;have t3:=D0.out.cell (i:=3) (v:=.int .u64 0) rfl;have y3:=D0.out.free 3;have t4:=D0.out.cell (i:=4) (v:=.bool false) rfl;have y4:=D0.out.free 4))
    have F1:=Lib.hid (Blk.whole [.int .u64 (x2.deliv:Int),.int .u64 (x2.interval:Int),.int .u64 (x2.rate:Int),.int .u64 (x2.rtt:Int),.bool x2.lim] D0.out rfl)
    have F2:=Lib.hid (Blk.sets_other (g:=w.heap.size) HNb.out.symm [.int .u64 (x2.deliv:Int),.int .u64 (x2.interval:Int),.int .u64 (x2.rate:Int),.int .u64 (x2.rtt:Int),.bool x2.lim] 0 _ D1.out)
    have F3:=Lib.hid (gr_sets_new (Nat.le_refl _) [.int .u64 (x2.deliv:Int),.int .u64 (x2.interval:Int),.int .u64 (x2.rate:Int),.int .u64 (x2.rtt:Int),.bool x2.lim] 0 _ D3.out)
    go_wp2_with fail
    exact bodyPost_ret (results_cell_tmp rfl _ _ w.heap.size 108 _ _ rfl F1.out Tryz.underlying108 rfl (by kernel_rfl)) rfl ⟨rfl,F2.out,F3.out⟩
   ·have HD:=Lib.hid (show dropM m s.mark=s.mark by unfold dropM;rw [if_neg hd])
    have hq:decide (s.mark < m)=false:=by simpa using hd
    clear hd
    go_wp2_with fail
    go_region
    go_wp2_with fail
    have HR4:=Lib.hid (HR3.out.drew)
    have HB4:Hid (RaAt _ b s2):=Lib.hid (by rw [HX.out];rw [HD.out];exact Blk.drew HB3.out)
    have HN4:=Lib.hid (HN3.out.drew)
    have HG4:=Lib.hid (gr_drew HG3.out)
    generalize wb.drew=wd at *
    clear HR3 HB3 HN3 HG3 b0 b3 f3
    have HC0:Hid (s2.cells[0]? =some (.int .u64 (m:Int))):=Lib.hid (by rw [HX.out];rfl)
    have b0:=Blk.cell HB4.out (i:=0) (v:=.int .u64 (m:Int)) HC0.out
    have k0:=HN4.out.cell (i:=0) (v:=.int .u64 (t.sent:Int)) rfl
    have k1:=HN4.out.cell (i:=1) (v:=.int .u64 (t.first:Int)) rfl
    have k2:=HN4.out.cell (i:=2) (v:=.int .u64 (t.deliv:Int)) rfl
    have k3:=HN4.out.cell (i:=3) (v:=.int .u64 (t.at_:Int)) rfl
    have k4:=HN4.out.cell (i:=4) (v:=.bool t.lim) rfl
    have cb0:=cell_drew b0
    have ck0:=cell_drew k0
    have ck1:=cell_drew k1
    have ck2:=cell_drew k2
    have ck3:=cell_drew k3
    have ck4:=cell_drew k4
    go_wp2_with fail
    go_region_held3 (fun w'=>w'.cell? ⟨b,0,none⟩=some (.int .u64 (m:Int))∧w'.cell? ⟨w2.heap.size,0,none⟩=some (.int .u64 (t.sent:Int))∧w'.cell? ⟨w2.heap.size,1,none⟩=some (.int .u64 (t.first:Int))∧w'.cell? ⟨w2.heap.size,2,none⟩=some (.int .u64 (t.deliv:Int))∧w'.cell? ⟨w2.heap.size,3,none⟩=some (.int .u64 (t.at_:Int))∧w'.cell? ⟨w2.heap.size,4,none⟩=some (.bool t.lim))
     (first | with_reducible exact ⟨cb0,ck0,ck1,ck2,ck3,ck4⟩ | with_reducible exact ⟨g0,j0,j1,j2,j3,j4⟩ | with_reducible exact ⟨far5 g0 HNb.out.symm,far5 j0 HNr.out.symm,far5 j1 HNr.out.symm,far5 j2 HNr.out.symm,far5 j3 HNr.out.symm,far5 j4 HNr.out.symm⟩)
     (first | (go_at_call 131;refine (HSm.out _).mono ?_;rintro e w5 ⟨rfl,hb5⟩;have D0:=Lib.hid (HR4.out.drew.keep hb5);have D1:=Lib.hid ((Blk.drew HB4.out).keep hb5);have D2:=Lib.hid (HN4.out.drew.keep hb5);have D3:=Lib.hid (gr_trans (gr_drew HG4.out) (gr_below hb5 (some b)));clear hb5;have g0:=D1.out.cell (i:=0) (v:=.int .u64 (m:Int)) HC0.out;have j0:=D2.out.cell (i:=0) (v:=.int .u64 (t.sent:Int)) rfl;have j1:=D2.out.cell (i:=1) (v:=.int .u64 (t.first:Int)) rfl;have j2:=D2.out.cell (i:=2) (v:=.int .u64 (t.deliv:Int)) rfl;have j3:=D2.out.cell (i:=3) (v:=.int .u64 (t.at_:Int)) rfl;have j4:=D2.out.cell (i:=4) (v:=.bool t.lim) rfl;have t0:=D0.out.cell (i:=0) (v:=.int .u64 0) rfl;have y0:=D0.out.free 0;have t1:=D0.out.cell (i:=1) (v:=.int .u64 0) rfl;have y1:=D0.out.free 1;have t2:=D0.out.cell (i:=2) (v:=.int .u64 0) rfl;have y2:=D0.out.free 2;have t3:=D0.out.cell (i:=3) (v:=.int .u64 0) rfl;have y3:=D0.out.free 3;have t4:=D0.out.cell (i:=4) (v:=.bool false) rfl;have y4:=D0.out.free 4))
    have F1:=Lib.hid (Blk.whole [.int .u64 (x2.deliv:Int),.int .u64 (x2.interval:Int),.int .u64 (x2.rate:Int),.int .u64 (x2.rtt:Int),.bool x2.lim] D0.out rfl)
    have F2:=Lib.hid (Blk.sets_other (g:=w.heap.size) HNb.out.symm [.int .u64 (x2.deliv:Int),.int .u64 (x2.interval:Int),.int .u64 (x2.rate:Int),.int .u64 (x2.rtt:Int),.bool x2.lim] 0 _ D1.out)
    have F3:=Lib.hid (gr_sets_new (Nat.le_refl _) [.int .u64 (x2.deliv:Int),.int .u64 (x2.interval:Int),.int .u64 (x2.rate:Int),.int .u64 (x2.rtt:Int),.bool x2.lim] 0 _ D3.out)
    go_wp2_with fail
    exact bodyPost_ret (results_cell_tmp rfl _ _ w.heap.size 108 _ _ rfl F1.out Tryz.underlying108 rfl (by kernel_rfl)) rfl ⟨rfl,F2.out,F3.out⟩
end Go.Proofs.YteoepabmnbkabaaGreatDoor
