/- 1 texts put together: what each one says stands ahead of it. -/
import Derived.Test.YteoepabmnbkabaaGreatDoorKS46
import Derived.Test.YteoepabmnbkabaaGreatDoorKS48
import Derived.Test.YteoepabmnbkabaaGreatDoorKS10
import Derived.StillTailTactics
set_option linter.unusedVariables false
namespace Go.Proofs.YteoepabmnbkabaaGreatDoor
open Go.RowKit Cf
structure AlI (W:World) (c:Setup) (V:World) (B:Nat) (D:SD) (s:SN) (v:Value) (L:List Pk) (w:World):Prop where
 n:NewI W c w
 i:SndI V B D s w
 r:PRow 0 w v L
theorem AlI.to {W:World} {c:Setup} {V:World} {B:Nat} {D:SD} {s:SN} {v:Value} {L:List Pk} {w w':World} (h:AlI W c V B D s v L w) (k:Below w.heap.size w w'):AlI W c V B D s v L w':=⟨⟨h.n.b.keep k,bel_to h.n.bel k h.n.bel.size⟩,h.i.to k,h.r.keep k⟩
theorem al_c {W:World} {c:Setup} {V:World} {B:Nat} {D:SD} {s:SN} {v:Value} {L:List Pk}:∀w,Hid (AlI W c V B D s v L w)→w.cell? ⟨W.heap.size,0,none⟩=some (.int .u64 (c 0:Int)):=fun w q=>q.out.n.b.cell rfl
theorem al_r {W:World} {c:Setup} {V:World} {B:Nat} {D:SD} {s:SN} {g gc k:Nat} {L:List Pk} {j:Nat} {u:Value} (hk:k < L.length) (hj:j < 7) (hu:(Pk.cs (L.getD k Itm.z))[j]? =some u):∀w,Hid (AlI W c V B D s (.slice (some ⟨g,0,none⟩) L.length gc) L w)→w.cell? ⟨g,k * 7 + j,none⟩=some u:=fun w q=>(q.out.r.cell hk j hj).trans hu
theorem totS_take {L:List Pk} {k:Nat} (h:k < L.length):totS (L.take (k + 1))=totS (L.take k) + (L.getD k Itm.z).size:=by
 have e:L.getD k Itm.z=L[k]:=by simp [List.getD_eq_getElem?_getD,h]
 rw [List.take_succ_eq_append_getElem h,totS_append,e,totS_cons,totS_nil,Nat.add_zero]
theorem totS_take_le (L:List Pk) (k:Nat):totS (L.take k)≤totS L:=by
 have:=totS_append (L.take k) (L.drop k)
 rw [List.take_append_drop] at this
 omega
set_option maxHeartbeats 1000000 in
theorem allow17_no (v:Option Addr) (cap b off:Nat) (l:List Act17) (c:Setup) (hc:∀i,c i≤18446744073709551615) (W:World) (hg:Gl W) (h:InAct17 W v l b off) (hr:rightC c=false∨fits17 l=false):
  Calls Tryz.prog 4 #[.agg (ccells c),.slice v l.length cap] W fun e w'=>e=.returned (.bool true)∧Below W.heap.size W w':=by
 have HR:=Lib.hid (fun w=>ref_Right c w)
 have HF:=Lib.hid (fun w (k:Below W.heap.size W w)=>fits17_any l v cap b off w (h.keep k))
 have HA:=Lib.hid (fun w hg=>alive17 w hg)
 have HG:=Lib.hid hg
 have N0:Hid (NewI W c (W.alloc (.cells (ccells c) 24))):=Lib.hid ⟨Blk.new W _ _,al_be _ _⟩
 have HX:Hid (ccells c=#[.int .u64 (c 0:Int),.int .u64 (c 1:Int),.int .u64 (c 2:Int),.int .u64 (c 3:Int),.int .u64 (c 4:Int),.int .u64 (c 5:Int)]):=Lib.hid rfl
 clear hg hc h
 rw [HX.out] at N0 HR ⊢
 generalize rightC c=bc at *
 generalize fits17 l=bf at *
 rcases hr with hr | hr
 ·subst hr
  go_enter Tryz.func4,Tryz.ntmps4
  go_wp2_with fail
  refine (HR.out _).mono ?_
  rintro e w1 ⟨rfl,hb⟩
  have N1:=ni_k N0 hb
  clear N0 hb HR
  go_wp2_with fail
  refine (HF.out _ N1.out.bel).mono ?_
  rintro e wf ⟨rfl,hw⟩
  have hw:=hw.symm
  subst hw
  clear HF
  go_wp2_with fail
  refine (HA.out _ (HG.out.keep N1.out.bel)).mono ?_
  rintro e w2 ⟨rfl,hb⟩
  have N2:=ni_k N1 hb
  clear hb N1
  go_wp2_with fail
  go_ret
  exact ⟨rfl,N2.out.bel⟩
 ·subst hr
  cases bc
  all_goals
   go_enter Tryz.func4,Tryz.ntmps4
   go_wp2_with fail
   refine (HR.out _).mono ?_
   rintro e w1 ⟨rfl,hb⟩
   have N1:=ni_k N0 hb
   clear N0 hb HR
   go_wp2_with fail
   refine (HF.out _ N1.out.bel).mono ?_
   rintro e wf ⟨rfl,hw⟩
   have hw:=hw.symm
   subst hw
   clear HF
   go_wp2_with fail
   refine (HA.out _ (HG.out.keep N1.out.bel)).mono ?_
   rintro e w2 ⟨rfl,hb⟩
   have N2:=ni_k N1 hb
   clear hb N1
   go_wp2_with fail
   go_ret
   exact ⟨rfl,N2.out.bel⟩
set_option maxRecDepth 100000 in
set_option maxHeartbeats 8000000 in
theorem allow17_few (v:Option Addr) (cap b off:Nat) (l:List Act17) (c:Setup) (hc:∀i,c i≤18446744073709551615) (W:World) (hg:Gl W) (h:InAct17 W v l b off) (hr:rightC c=true) (hf:fits17 l=true):
  Calls Tryz.prog 4 #[.agg (ccells c),.slice v l.length cap] W fun e w'=>e=.returned (.bool true)∧Below W.heap.size W w':=by
 have HR:=Lib.hid (fun w=>ref_Right c w)
 have HF:=Lib.hid (fun w (k:Below W.heap.size W w)=>fits17_any l v cap b off w (h.keep k))
 have HA:=Lib.hid (fun w hg=>alive17 w hg)
 have HG:=Lib.hid hg
 have N0:Hid (NewI W c (W.alloc (.cells (ccells c) 24))):=Lib.hid ⟨Blk.new W _ _,al_be _ _⟩
 have HX:Hid (ccells c=#[.int .u64 (c 0:Int),.int .u64 (c 1:Int),.int .u64 (c 2:Int),.int .u64 (c 3:Int),.int .u64 (c 4:Int),.int .u64 (c 5:Int)]):=Lib.hid rfl
 have HN:=Lib.hid (fun w hg=>sn_New_ok c hc hr w hg)
 have HOk:=Lib.hid (SN.new_ok hr hc)
 have HRt:=Lib.hid hr
 have HFt:=Lib.hid (fits17_yes hf)
 have HI:=Lib.hid h
 rw [hf] at HF
 rw [hr] at HR
 have r0:=ni_r (W:=W) (c:=c) (i:=0) (v:=.int .u64 (c 0:Int)) rfl
 have r1:=ni_r (W:=W) (c:=c) (i:=1) (v:=.int .u64 (c 1:Int)) rfl
 have r2:=ni_r (W:=W) (c:=c) (i:=2) (v:=.int .u64 (c 2:Int)) rfl
 have r3:=ni_r (W:=W) (c:=c) (i:=3) (v:=.int .u64 (c 3:Int)) rfl
 have r4:=ni_r (W:=W) (c:=c) (i:=4) (v:=.int .u64 (c 4:Int)) rfl
 have r5:=ni_r (W:=W) (c:=c) (i:=5) (v:=.int .u64 (c 5:Int)) rfl
 clear hg hr hc hf h
 rw [HX.out] at N0 HR HN ⊢
 go_enter Tryz.func4,Tryz.ntmps4
 go_wp2_with fail
 refine (HR.out _).mono ?_
 rintro e w1 ⟨rfl,hb⟩
 have N1:=ni_k N0 hb
 clear N0 hb HR
 go_wp2_with fail
 refine (HF.out _ N1.out.bel).mono ?_
 rintro e wf ⟨rfl,hw⟩
 have hw:=hw.symm
 subst hw
 clear HF
 go_wp2_with fail
 refine (HN.out _ (HG.out.keep N1.out.bel)).mono ?_
 rintro e w2 ⟨D,rfl,hs,hb⟩
 have I2:=Lib.hid (SndI.start hs)
 have HB2:=Lib.hid hb
 clear hs hb HN
 go_wp2_with fail
 have HBw:=Lib.hid (bel_to N1.out.bel HB2.out N1.out.bel.size)
 have N2:=Lib.hid (show NewI W c w2 from ⟨N1.out.b.keep HB2.out,bel_to N1.out.bel HB2.out N1.out.bel.size⟩)
 go_loopw [9,10] (fun nv i wr=>∃(k m d:Nat) (s:SN),i=.int .i64 (k:Int)∧nv=.int .u64 (s.L.next:Int)∧k≤l.length∧m≤65 * k∧s.ok c k m d∧SndI w2 w1.heap.size D s wr∧Blk wr W.heap.size 24 (ccells c)) (fun _ i _=>l.length - (intOf i).toNat)
 case atStart=>exact ⟨0,0,0,SN.new c,rfl,rfl,Nat.zero_le _,Nat.zero_le _,HOk.out,I2.out,N2.out.b⟩
 case round=>
  obtain ⟨k,m,d,s,rfl,rfl,hk,hm,hok,hi,hcb⟩:=hrel
  have M0:=Lib.hid hi
  have HO:=Lib.hid hok
  have HM:=Lib.hid hm
  have HCb:=Lib.hid hcb
  clear hi hok hm I2 hcb N2
  by_cases hlt:k < l.length
  ·clear hk
   obtain ⟨rfl,hb0⟩:=HI.out.2.1 (by omega)
   have HQ:=Lib.hid (HI.out.2.2 k hlt)
   have HQl:=Lib.hid (HFt.out.2 k hlt)
   have hk80:k < 80:=by have:=HFt.out.1;omega
   have HK80:=Lib.hid hk80
   have HBd:=Lib.hid hb0
   have HLt:=Lib.hid hlt
   have i0:(0:Int)≤(k:Int):=by omega
   have i1:(k:Int) < (l.length:Int):=by omega
   generalize l.getD k default=q at *
   clear hb0
   obtain ⟨a,ha⟩:=SN.did HO.out HRt.out (by have:=HK80.out;omega) (by have:=HM.out;have:=HK80.out;omega) q.k q.n q.r
   have HDid:=Lib.hid ha
   have HDo:Hid (∀w,SndAt w w1.heap.size D s→Below W.heap.size W w→Calls Tryz.prog 14 #[.pointer (some ⟨D.b,0,none⟩),.agg #[.int .u8 (q.k:Int),.int .u64 (q.n:Int),.slice q.p q.r.length q.c]] w fun e w'=>∃v,e=.returned v∧PRow w.heap.size w' v (s.doL q.k q.n)∧SndI w w1.heap.size D (s.doS q.k q.n q.r) w'):=Lib.hid (fun w q0 hbw=>do17 q.k q.n q.p q.c q.r w q0 HO.out HRt.out (by have:=HK80.out;omega) (by have:=HM.out;have:=HK80.out;omega) HQ.out.b0 HQ.out.b1 (HQ.out.keep HBd.out hbw).b2.2.1 (fun hp a ea=>Nat.lt_of_lt_of_le (HQ.out.b2.2.1.lt hp a ea) N1.out.bel.size) (Nat.le_trans HQl.out (by omega)) HQ.out.b2.2.2)
   generalize s.doS q.k q.n q.r=s' at *
   generalize s.doL q.k q.n=L at *
   clear ha
   have HTi:=Lib.hid (fun w (q:SndAt w w1.heap.size D s')=>sn_Time w q)
   have HFl:=Lib.hid (fun w (q:SndAt w w1.heap.size D s')=>sn_InFlight w q)
   have HEg:=Lib.hid (fun w (q:SndAt w w1.heap.size D s')=>sn_Engine w q)
   have HQu:=Lib.hid (fun w (q:SndAt w w1.heap.size D s')=>en_Quantum w q.e HDid.out.ok.e)
   have HCw:=Lib.hid (fun w (q:SndAt w w1.heap.size D s')=>en_Cwnd w q.e)
   have Q1:=HQ.out.keep HBd.out (HBw.out.trans (M0.out.bel.mono N1.out.bel.size))
   have x0:=Q1.k0
   have x1:=Q1.k1
   have x2:=Q1.k2
   clear Q1
   go_wp2_with fail
   refine (HDo.out _ M0.out.at_ (HBw.out.trans (M0.out.bel.mono N1.out.bel.size))).mono ?_
   rintro e w3 ⟨v3,rfl,hrow,hi⟩
   have M4:=Lib.hid (M0.out.over hi)
   have A0:Hid (AlI W c w2 w1.heap.size D s' v3 L w3):=Lib.hid ⟨⟨hi.kt _ (by decide) _ _ HCb.out,(HBw.out.trans (M4.out.bel.mono N1.out.bel.size))⟩,M4.out,hrow.mono (Nat.zero_le _)⟩
   obtain ⟨vp,gc,rfl⟩:=hrow.pr.form
   clear hrow hi x0 x1 x2 M4
   have HNx:Hid (s'.L.next=s.L.next + L.length):=Lib.hid HDid.out.next
   have HSm:Hid (s.L.next≤5900):=Lib.hid (by have:=HO.out.few;have:=HM.out;omega)
   go_wp2_with fail
   go_loopw [9,12,13] (fun nv tv i wr=>∃j:Nat,i=.int .i64 (j:Int)∧nv=.int .u64 ((s.L.next + j:Nat):Int)∧tv=.int .u64 ((totS (L.take j):Nat):Int)∧j≤L.length∧AlI W c w2 w1.heap.size D s' (.slice vp L.length gc) L wr) (fun _ _ i _=>L.length - (intOf i).toNat)
   case atStart=>exact ⟨0,rfl,rfl,rfl,Nat.zero_le _,A0.out⟩
   case round=>
    obtain ⟨j,rfl,rfl,rfl,hj,ha⟩:=hrel
    have A0:=Lib.hid ha
    clear ha
    by_cases hlj:j < L.length
    ·obtain ⟨g,og,e,_,_⟩:=A0.out.r.pr.its (by omega)
     obtain rfl:vp=some ⟨g,0,none⟩:=by
      rcases A0.out.r.2 with ⟨_,e2⟩ | ⟨g2,c2,cu,e2,_⟩
      ·omega
      ·injection e2 with e3;rw [e3] at e ⊢;injection e with e;injection e with e4;rw [e4]
     clear e
     have hp:=HDid.out.size (L.getD j Itm.z) (by rw [List.getD_eq_getElem?_getD,List.getElem?_eq_getElem hlj];exact List.getElem_mem hlj)
     have hnum:=HDid.out.num j hlj
     have htk:=totS_take hlj
     have htl:=totS_take_le L (j + 1)
     have hall:=HDid.out.all
     have hqm:=HDid.out.ok.fr.qm
     have hmm:=right_mss HRt.out
     have q0:∀w,Hid (AlI W c w2 w1.heap.size D s' (.slice (some ⟨g,0,none⟩) L.length gc) L w)→w.cell? ⟨g,j * 7,none⟩=some (.int .u64 ((L.getD j Itm.z).n:Int)):=al_r (W:=W) (c:=c) (V:=w2) (B:=w1.heap.size) (D:=D) (s:=s') (g:=g) (gc:=gc) hlj (show 0 < 7 by decide) (u:=.int .u64 ((L.getD j Itm.z).n:Int)) rfl
     have q1:=al_r (W:=W) (c:=c) (V:=w2) (B:=w1.heap.size) (D:=D) (s:=s') (g:=g) (gc:=gc) hlj (show 1 < 7 by decide) (u:=.int .u64 ((L.getD j Itm.z).size:Int)) rfl
     have q2:=al_r (W:=W) (c:=c) (V:=w2) (B:=w1.heap.size) (D:=D) (s:=s') (g:=g) (gc:=gc) hlj (show 2 < 7 by decide) (u:=.int .u64 ((L.getD j Itm.z).sent:Int)) rfl
     have qc:=al_c (W:=W) (c:=c) (V:=w2) (B:=w1.heap.size) (D:=D) (s:=s') (v:=.slice (some ⟨g,0,none⟩) L.length gc) (L:=L)
     rw [hp.2.2] at q2
     rw [hnum] at q0
     have j0:(0:Int)≤(j:Int):=by omega
     have j1:(j:Int) < (L.length:Int):=by omega
     have hj65:j < 65:=by have:=HDid.out.len;omega
     generalize hsz:(L.getD j Itm.z).size=sz at *
     have HTk:Hid (totS (L.take (j + 1))=totS (L.take j) + sz):=Lib.hid htk
     generalize totS (L.take j)=tj at *
     generalize s'.c.t=t0 at *
     have e1:(tj:Int) + (sz:Int)=((tj + sz:Nat):Int):=by omega
     have u1:IntKind.u64.wrap ((tj + sz:Nat):Int)=((tj + sz:Nat):Int):=by rw [IntKind.wrap_u64];omega
     have e2:((s.L.next + j:Nat):Int) + 1=((s.L.next + (j + 1):Nat):Int):=by omega
     have u2:IntKind.u64.wrap ((s.L.next + (j + 1):Nat):Int)=((s.L.next + (j + 1):Nat):Int):=by have:=HSm.out;rw [IntKind.wrap_u64];omega
     have d0:((sz:Int) == 0)=false:=beq_eq_false_iff_ne.2 (by omega)
     have d1:decide ((c 0:Int) < (sz:Int))=false:=decide_eq_false (by omega)
     have d1':decide (c 0 < sz)=false:=decide_eq_false (by omega)
     have z1:=q1 _ A0
     have HLj:=Lib.hid hlj
     clear hp hnum htk htl hall hqm hmm hsz hlj hj
     generalize s.L.next + j=nj at *
     generalize hn1:s.L.next + (j + 1)=nj1 at *
     have HNj:=Lib.hid hn1
     clear hn1
     generalize tj + sz=tj1 at *
     go_wp2_with fail
     have A1:=Lib.hid (A0.out.to ((Drawn.drew _).below _))
     refine wp_region_held_drew (S:=(fun w'=>Hid (AlI W c w2 w1.heap.size D s' (.slice (some ⟨g,0,none⟩) L.length gc) L w'))) (by kernel_rfl) A1 (fun hHeld=>?_)
     simp only [List.size_toArray,List.length_cons,List.length_nil,Nat.reduceAdd,Array.replicate_succ,Array.replicate_zero,List.push_toArray,List.nil_append,List.cons_append]
     refine wpAnyH_take (i:=0) (oi:=⟨some 61,_,_,_,_,_⟩) (v:=?v1) rfl (by kernel_rfl) (by kernel_rfl) (by kernel_rfl) (fun _ _ _ h=>h) (Or.inl ⟨by rfl,?y1⟩) (by assumption) ?r1
     case y1=>intro w hSw;clear hSw;go_simp;(try with_reducible rfl)
     simp only [Act.put,List.setIfInBounds_toArray,List.set_cons_zero,List.set_cons_succ]
     refine wpAnyH_take (i:=1) (oi:=⟨some 62,_,_,_,_,_⟩) (v:=?v2) rfl (by kernel_rfl) (by kernel_rfl) (by kernel_rfl) (fun _ _ _ h=>h) (Or.inl ⟨by rfl,?y2⟩) (by assumption) ?r2
     case y2=>intro w hSw;clear hSw;go_simp;(try with_reducible rfl)
     simp only [Act.put,List.setIfInBounds_toArray,List.set_cons_zero,List.set_cons_succ]
     refine wpAnyH_take (i:=2) (oi:=⟨some 63,_,_,_,_,_⟩) (v:=?v3) rfl (by kernel_rfl) (by kernel_rfl) (by kernel_rfl) (fun _ _ _ h=>h) (Or.inl ⟨by rfl,?y3⟩) (by assumption) ?r3
     case y3=>intro w hSw;clear hSw;go_simp;(try with_reducible rfl)
     simp only [Act.put,List.setIfInBounds_toArray,List.set_cons_zero,List.set_cons_succ]
     refine wpAnyH_take (i:=3) (oi:=⟨some 64,_,_,_,_,_⟩) (v:=?v4) rfl (by kernel_rfl) (by kernel_rfl) (by kernel_rfl) (fun _ _ _ h=>h) (Or.inl ⟨by rfl,?y4⟩) (by assumption) ?r4
     case y4=>intro w hSw;clear hSw;go_simp;(try with_reducible rfl)
     simp only [Act.put,List.setIfInBounds_toArray,List.set_cons_zero,List.set_cons_succ]
     refine wpAnyH_take (i:=4) (oi:=⟨some 65,_,_,_,_,_⟩) (v:=?v5) rfl (by kernel_rfl) (by kernel_rfl) (by kernel_rfl) (fun _ _ _ h=>h) (Or.inl ⟨by rfl,?y5⟩) (by assumption) ?r5
     case y5=>intro w hSw;skip;go_simp;(try with_reducible rfl)
     simp only [Act.put,List.setIfInBounds_toArray,List.set_cons_zero,List.set_cons_succ]
     refine wpAnyH_take (i:=5) (oi:=⟨some 66,_,_,_,_,_⟩) (v:=?v6) rfl (by kernel_rfl) (by kernel_rfl) (by kernel_rfl) (fun _ _ _ h=>h) (Or.inl ⟨by rfl,?y6⟩) (by assumption) ?r6
     case y6=>intro w hSw;clear hSw;go_simp;(try with_reducible rfl)
     simp only [Act.put,List.setIfInBounds_toArray,List.set_cons_zero,List.set_cons_succ]
     refine wpAnyH_take (i:=6) (oi:=⟨some 67,_,_,_,_,_⟩) (v:=?v7) rfl (by kernel_rfl) (by kernel_rfl) (by kernel_rfl) (fun _ _ _ h=>h) (Or.inl ⟨by rfl,?y7⟩) (by assumption) ?r7
     case y7=>intro w hSw;clear hSw;go_simp;(try with_reducible rfl)
     simp only [Act.put,List.setIfInBounds_toArray,List.set_cons_zero,List.set_cons_succ]
     refine wpAnyH_take (i:=7) (oi:=⟨some 68,_,_,_,_,_⟩) (v:=?v8) rfl (by kernel_rfl) (by kernel_rfl) (by kernel_rfl) (fun _ _ _ h=>h) (Or.inl ⟨by rfl,?y8⟩) (by assumption) ?r8
     case y8=>intro w hSw;clear hSw;go_simp;(try with_reducible rfl)
     simp only [Act.put,List.setIfInBounds_toArray,List.set_cons_zero,List.set_cons_succ]
     refine wpAnyH_take (i:=8) (oi:=⟨some 69,_,_,_,_,_⟩) (v:=?v9) rfl (by kernel_rfl) (by kernel_rfl) (by kernel_rfl) (fun _ _ _ h=>h) (Or.inl ⟨by rfl,?y9⟩) (by assumption) ?r9
     case y9=>intro w hSw;clear hSw;go_simp;(try with_reducible rfl)
     simp only [Act.put,List.setIfInBounds_toArray,List.set_cons_zero,List.set_cons_succ]
     refine wpAnyH_take (i:=9) (oi:=⟨some 70,_,_,_,_,_⟩) (v:=?v10) rfl (by kernel_rfl) (by kernel_rfl) (by kernel_rfl) (fun _ _ _ h=>h) (Or.inl ⟨by rfl,?y10⟩) (by assumption) ?r10
     case y10=>intro w hSw;clear hSw;go_simp;(try with_reducible rfl)
     simp only [Act.put,List.setIfInBounds_toArray,List.set_cons_zero,List.set_cons_succ]
     refine wpAnyH_take (i:=10) (oi:=⟨some 71,_,_,_,_,_⟩) (v:=?v11) rfl (by kernel_rfl) (by kernel_rfl) (by kernel_rfl) (fun _ _ _ h=>h) (Or.inl ⟨by rfl,?y11⟩) (by assumption) ?r11
     case y11=>intro w hSw;clear hSw;go_simp;(try with_reducible rfl)
     simp only [Act.put,List.setIfInBounds_toArray,List.set_cons_zero,List.set_cons_succ]
     refine wpAnyH_take (i:=11) (oi:=⟨some 72,_,_,_,_,_⟩) (v:=?v12) rfl (by kernel_rfl) (by kernel_rfl) (by kernel_rfl) (fun _ _ _ h=>h) (Or.inl ⟨by rfl,?y12⟩) (by assumption) ?r12
     case y12=>intro w hSw;skip;go_simp;(try with_reducible rfl)
     simp only [Act.put,List.setIfInBounds_toArray,List.set_cons_zero,List.set_cons_succ]
     refine wpAnyH_take (i:=12) (oi:=⟨some 73,_,_,_,_,_⟩) (v:=?v13) rfl (by kernel_rfl) (by kernel_rfl) (by kernel_rfl) (fun _ _ _ h=>h) (Or.inl ⟨by rfl,?y13⟩) (by assumption) ?r13
     case y13=>intro w hSw;clear hSw;go_simp;(try with_reducible rfl)
     simp only [Act.put,List.setIfInBounds_toArray,List.set_cons_zero,List.set_cons_succ]
     refine wpAnyH_take (i:=13) (oi:=⟨some 74,_,_,_,_,_⟩) (v:=?v14) rfl (by kernel_rfl) (by kernel_rfl) (by kernel_rfl) (fun _ _ _ h=>h) (Or.inl ⟨by rfl,?y14⟩) (by assumption) ?r14
     case y14=>intro w hSw;skip;go_simp;(try with_reducible rfl)
     simp only [Act.put,List.setIfInBounds_toArray,List.set_cons_zero,List.set_cons_succ]
     refine wpAnyH_take (i:=14) (oi:=⟨some 75,_,_,_,_,_⟩) (v:=?v15) rfl (by kernel_rfl) (by kernel_rfl) (by kernel_rfl) (fun _ _ _ h=>h) (Or.inl ⟨by rfl,?y15⟩) (by assumption) ?r15
     case y15=>intro w hSw;clear hSw;go_simp;(try with_reducible rfl)
     simp only [Act.put,List.setIfInBounds_toArray,List.set_cons_zero,List.set_cons_succ]
     refine wpAnyH_take (i:=15) (oi:=⟨some 76,_,_,_,_,_⟩) (v:=?v16) rfl (by kernel_rfl) (by kernel_rfl) (by kernel_rfl) (fun _ _ _ h=>h) (Or.inl ⟨by rfl,?y16⟩) (by assumption) ?r16
     case y16=>intro w hSw;clear hSw;go_simp;(try with_reducible rfl)
     simp only [Act.put,List.setIfInBounds_toArray,List.set_cons_zero,List.set_cons_succ]
     refine wpAnyH_take (i:=16) (oi:=⟨some 77,_,_,_,_,_⟩) (v:=?v17) rfl (by kernel_rfl) (by kernel_rfl) (by kernel_rfl) (fun _ _ _ h=>h) (Or.inl ⟨by rfl,?y17⟩) (by assumption) ?r17
     case y17=>intro w hSw;clear hSw;go_simp;(try with_reducible rfl)
     simp only [Act.put,List.setIfInBounds_toArray,List.set_cons_zero,List.set_cons_succ]
     refine wpAnyH_take (i:=17) (oi:=⟨some 78,_,_,_,_,_⟩) (v:=?v18) rfl (by kernel_rfl) (by kernel_rfl) (by kernel_rfl) (fun _ _ _ h=>h) (Or.inl ⟨by rfl,?y18⟩) (by assumption) ?r18
     case y18=>intro w hSw;clear hSw;go_simp;(try with_reducible rfl)
     simp only [Act.put,List.setIfInBounds_toArray,List.set_cons_zero,List.set_cons_succ]
     refine wpAnyH_take (i:=18) (oi:=⟨some 79,_,_,_,_,_⟩) (v:=?v19) rfl (by kernel_rfl) (by kernel_rfl) (by kernel_rfl) (fun _ _ _ h=>h) (Or.inl ⟨by rfl,?y19⟩) (by assumption) ?r19
     case y19=>intro w hSw;clear hSw;go_simp;(try with_reducible rfl)
     simp only [Act.put,List.setIfInBounds_toArray,List.set_cons_zero,List.set_cons_succ]
     refine wpAnyH_take (i:=19) (oi:=⟨some 80,_,_,_,_,_⟩) (v:=?v20) rfl (by kernel_rfl) (by kernel_rfl) (by kernel_rfl) (fun _ _ _ h=>h) (Or.inl ⟨by rfl,?y20⟩) (by assumption) ?r20
     case y20=>intro w hSw;clear hSw;go_simp;(try with_reducible rfl)
     simp only [Act.put,List.setIfInBounds_toArray,List.set_cons_zero,List.set_cons_succ]
     refine wpAnyH_take (i:=20) (oi:=⟨some 81,_,_,_,_,_⟩) (v:=?v21) rfl (by kernel_rfl) (by kernel_rfl) (by kernel_rfl) (fun _ _ _ h=>h) (Or.inl ⟨by rfl,?y21⟩) (by assumption) ?r21
     case y21=>intro w hSw;clear hSw;go_simp;(try with_reducible rfl)
     simp only [Act.put,List.setIfInBounds_toArray,List.set_cons_zero,List.set_cons_succ]
     refine wpAnyH_take (i:=21) (oi:=⟨some 82,_,_,_,_,_⟩) (v:=?v22) rfl (by kernel_rfl) (by kernel_rfl) (by kernel_rfl) (fun _ _ _ h=>h) (Or.inl ⟨by rfl,?y22⟩) (by assumption) ?r22
     case y22=>intro w hSw;skip;go_simp;(try with_reducible rfl)
     simp only [Act.put,List.setIfInBounds_toArray,List.set_cons_zero,List.set_cons_succ]
     refine wpAnyH_take (i:=22) (oi:=⟨some 83,_,_,_,_,_⟩) (v:=?v23) rfl (by kernel_rfl) (by kernel_rfl) (by kernel_rfl) (fun _ _ _ h=>h) (Or.inl ⟨by rfl,?y23⟩) (by assumption) ?r23
     case y23=>intro w hSw;clear hSw;go_simp;(try with_reducible rfl)
     simp only [Act.put,List.setIfInBounds_toArray,List.set_cons_zero,List.set_cons_succ]
     refine wpAnyH_take (i:=23) (oi:=⟨some 84,_,_,_,_,_⟩) (v:=?v24) rfl (by kernel_rfl) (by kernel_rfl) (by kernel_rfl) (fun _ _ _ h=>h) (Or.inl ⟨by rfl,?y24⟩) (by assumption) ?r24
     case y24=>intro w hSw;clear hSw;go_simp;(try with_reducible rfl)
     simp only [Act.put,List.setIfInBounds_toArray,List.set_cons_zero,List.set_cons_succ]
     refine wpAnyH_take (i:=24) (oi:=⟨some 85,_,_,_,_,_⟩) (v:=?v25) rfl (by kernel_rfl) (by kernel_rfl) (by kernel_rfl) (fun _ _ _ h=>h) (Or.inl ⟨by rfl,?y25⟩) (by assumption) ?r25
     case y25=>intro w hSw;clear hSw;go_simp;(try with_reducible rfl)
     simp only [Act.put,List.setIfInBounds_toArray,List.set_cons_zero,List.set_cons_succ]
     refine wpAnyH_take (i:=25) (oi:=⟨some 86,_,_,_,_,_⟩) (v:=?v26) rfl (by kernel_rfl) (by kernel_rfl) (by kernel_rfl) (fun _ _ _ h=>h) (Or.inl ⟨by rfl,?y26⟩) (by assumption) ?r26
     case y26=>intro w hSw;clear hSw;go_simp;(try with_reducible rfl)
     simp only [Act.put,List.setIfInBounds_toArray,List.set_cons_zero,List.set_cons_succ]
     refine wpAnyH_take (i:=26) (oi:=⟨some 87,_,_,_,_,_⟩) (v:=?v27) rfl (by kernel_rfl) (by kernel_rfl) (by kernel_rfl) (fun _ _ _ h=>h) (Or.inl ⟨by rfl,?y27⟩) (by assumption) ?r27
     case y27=>intro w hSw;clear hSw;go_simp;(try with_reducible rfl)
     simp only [Act.put,List.setIfInBounds_toArray,List.set_cons_zero,List.set_cons_succ]
     refine wpAnyH_take (i:=27) (oi:=⟨some 88,_,_,_,_,_⟩) (v:=?v28) rfl (by kernel_rfl) (by kernel_rfl) (by kernel_rfl) (fun _ _ _ h=>h) (Or.inl ⟨by rfl,?y28⟩) (by assumption) ?r28
     case y28=>intro w hSw;clear hSw;go_simp;(try with_reducible rfl)
     simp only [Act.put,List.setIfInBounds_toArray,List.set_cons_zero,List.set_cons_succ]
     refine wpAnyH_take (i:=28) (oi:=⟨some 89,_,_,_,_,_⟩) (v:=?v29) rfl (by kernel_rfl) (by kernel_rfl) (by kernel_rfl) (fun _ _ _ h=>h) (Or.inl ⟨by rfl,?y29⟩) (by assumption) ?r29
     case y29=>intro w hSw;clear hSw;go_simp;(try with_reducible rfl)
     simp only [Act.put,List.setIfInBounds_toArray,List.set_cons_zero,List.set_cons_succ]
     refine wpAnyH_take (i:=29) (oi:=⟨some 90,_,_,_,_,_⟩) (v:=?v30) rfl (by kernel_rfl) (by kernel_rfl) (by kernel_rfl) (fun _ _ _ h=>h) (Or.inl ⟨by rfl,?y30⟩) (by assumption) ?r30
     case y30=>intro w hSw;clear hSw;go_simp;(try with_reducible rfl)
     simp only [Act.put,List.setIfInBounds_toArray,List.set_cons_zero,List.set_cons_succ]
     refine wpAnyH_take (i:=30) (oi:=⟨some 91,_,_,_,_,_⟩) (v:=?v31) rfl (by kernel_rfl) (by kernel_rfl) (by kernel_rfl) (fun _ _ _ h=>h) (Or.inl ⟨by rfl,?y31⟩) (by assumption) ?r31
     case y31=>intro w hSw;clear hSw;go_simp;(try with_reducible rfl)
     simp only [Act.put,List.setIfInBounds_toArray,List.set_cons_zero,List.set_cons_succ]
     refine wpAnyH_take (i:=31) (oi:=⟨some 92,_,_,_,_,_⟩) (v:=?v32) rfl (by kernel_rfl) (by kernel_rfl) (by kernel_rfl) (fun _ _ _ h=>h) (Or.inl ⟨by rfl,?y32⟩) (by assumption) ?r32
     case y32=>intro w hSw;skip;go_simp;(try with_reducible rfl)
     simp only [Act.put,List.setIfInBounds_toArray,List.set_cons_zero,List.set_cons_succ]
     refine wpAnyH_take (i:=32) (oi:=⟨some 93,_,_,_,_,_⟩) (v:=?v33) rfl (by kernel_rfl) (by kernel_rfl) (by kernel_rfl) (fun _ _ _ h=>h) (Or.inl ⟨by rfl,?y33⟩) (by assumption) ?r33
     case y33=>intro w hSw;clear hSw;go_simp;(try with_reducible rfl)
     simp only [Act.put,List.setIfInBounds_toArray,List.set_cons_zero,List.set_cons_succ]
     refine wpAnyH_ready (rs:=[33]) (by kernel_rfl) (by simp) ?_
     refine AllReadyH.cons (o:=⟨some 94,_,_,_,_,_⟩) rfl (fun K hK=>?_) AllReadyH.nil
     go_simp
     refine (HTi.out _ hHeld.out.i.at_).mono ?_
     rintro e w5 ⟨rfl,hb⟩
     have A2:=Lib.hid (hHeld.out.to hb)
     clear hb
     go_wp2_with fail
     refine hK.out _ _ A2 (fun hHeld=>?_)
     clear hK
     try simp only [List.setIfInBounds_toArray,List.set_cons_zero,List.set_cons_succ]
     refine wpAnyH_take (i:=34) (oi:=⟨some 95,_,_,_,_,_⟩) (v:=?v34) rfl (by kernel_rfl) (by kernel_rfl) (by kernel_rfl) (fun _ _ _ h=>h) (Or.inl ⟨by rfl,?y34⟩) (by assumption) ?r34
     case y34=>intro w hSw;clear hSw;go_simp;(try with_reducible rfl)
     simp only [Act.put,List.setIfInBounds_toArray,List.set_cons_zero,List.set_cons_succ]
     refine wpAnyH_take (i:=35) (oi:=⟨some 96,_,_,_,_,_⟩) (v:=?v35) rfl (by kernel_rfl) (by kernel_rfl) (by kernel_rfl) (fun _ _ _ h=>h) (Or.inl ⟨by rfl,?y35⟩) (by assumption) ?r35
     case y35=>intro w hSw;clear hSw;go_simp;(try with_reducible rfl)
     simp only [Act.put,List.setIfInBounds_toArray,List.set_cons_zero,List.set_cons_succ]
     refine wpAnyH_done (by kernel_rfl) ?_ _
     go_wp2_with fail
     have hlj:=HLj.out
     go_roundw
     case rel=>exact ⟨j + 1,by go_num,by rw [HNj.out],by rw [HTk.out],by omega,A2.out⟩
     case measure=>simp [intOf];omega
    ·obtain rfl:j=L.length:=by omega
     rw [List.take_length]
     have hall:=HDid.out.all
     have d1:decide ((s'.e.quant:Int) < (totS L:Int))=false:=decide_eq_false (by omega)
     have d1':decide (s'.e.quant < totS L)=false:=decide_eq_false (by omega)
     have hle:=HDid.out.le
     have HNx2:Hid (s.L.next + L.length=s'.L.next):=Lib.hid HNx.out.symm
     have hps:L≠[]→1≤totS L:=fun e=>totS_pos (fun p hp=>(HDid.out.size p hp).1) e
     generalize s.L.next + L.length=nj at *
     generalize s'.L.fl=fl at *
     generalize s'.e.cwnd=cw at *
     generalize s'.e.quant=qu at *
     have M5:=Lib.hid A0.out.i
     have C5:=Lib.hid A0.out.n.b
     clear hlj hj hall
     by_cases hL:L=[]
     ·have dz:totS L=0:=by rw [hL];rfl
      have dz1:decide ((0:Int) < (totS L:Int))=false:=decide_eq_false (by omega)
      have dz2:decide (0 < totS L)=false:=decide_eq_false (by omega)
      clear hL hle hps dz
      generalize totS L=tl at *
      go_wp2_with fail
      refine (HEg.out _ M5.out.at_).mono ?_
      rintro e wM6 ⟨rfl,hb⟩
      have M6:=Lib.hid (M5.out.to hb)
      have C6:=Lib.hid (C5.out.keep hb)
      clear hb
      go_wp2_with fail
      refine (HQu.out _ M6.out.at_).mono ?_
      rintro e wM7 ⟨rfl,hb⟩
      have M7:=Lib.hid (M6.out.to hb)
      have C7:=Lib.hid (C6.out.keep hb)
      clear hb
      go_wp2_with fail
      have hlt:=HLt.out
      go_roundw
      case rel=>exact ⟨k + 1,m + 65,d + a,s',by go_num,by rw [HNx2.out],by omega,by have:=HM.out;omega,HDid.out.ok,M7.out,C7.out⟩
      case measure=>simp [intOf];omega
     ·have hle:=hle hL
      have hps:=hps hL
      have dz1:decide ((0:Int) < (totS L:Int))=true:=decide_eq_true (by omega)
      have dz2:decide (0 < totS L)=true:=decide_eq_true (by omega)
      have df:decide ((cw:Int) < (fl:Int))=false:=decide_eq_false (by omega)
      have df':decide (cw < fl)=false:=decide_eq_false (by omega)
      clear hL hle hps
      generalize totS L=tl at *
      go_wp2_with fail
      refine (HEg.out _ M5.out.at_).mono ?_
      rintro e wM6 ⟨rfl,hb⟩
      have M6:=Lib.hid (M5.out.to hb)
      have C6:=Lib.hid (C5.out.keep hb)
      clear hb
      go_wp2_with fail
      refine (HQu.out _ M6.out.at_).mono ?_
      rintro e wM7 ⟨rfl,hb⟩
      have M7:=Lib.hid (M6.out.to hb)
      have C7:=Lib.hid (C6.out.keep hb)
      clear hb
      go_wp2_with fail
      refine (HFl.out _ M7.out.at_).mono ?_
      rintro e wM8 ⟨rfl,hb⟩
      have M8:=Lib.hid (M7.out.to hb)
      have C8:=Lib.hid (C7.out.keep hb)
      clear hb
      go_wp2_with fail
      refine (HEg.out _ M8.out.at_).mono ?_
      rintro e wM9 ⟨rfl,hb⟩
      have M9:=Lib.hid (M8.out.to hb)
      have C9:=Lib.hid (C8.out.keep hb)
      clear hb
      go_wp2_with fail
      refine (HCw.out _ M9.out.at_).mono ?_
      rintro e wM10 ⟨rfl,hb⟩
      have M10:=Lib.hid (M9.out.to hb)
      have C10:=Lib.hid (C9.out.keep hb)
      clear hb
      go_wp2_with fail
      have hlt:=HLt.out
      go_roundw
      case rel=>exact ⟨k + 1,m + 65,d + a,s',by go_num,by rw [HNx2.out],by omega,by have:=HM.out;omega,HDid.out.ok,M10.out,C10.out⟩
      case measure=>simp [intOf];omega
  ·obtain rfl:k=l.length:=by omega
   clear hlt hk
   go_wp2_with fail
   refine (HA.out _ M0.out.at_.e.gl).mono ?_
   rintro e w9 ⟨rfl,hb⟩
   have B9:=Lib.hid (bel_to (HBw.out.trans (M0.out.bel.mono N1.out.bel.size)) hb (HBw.out.trans (M0.out.bel.mono N1.out.bel.size)).size)
   clear hb
   go_wp2_with fail
   go_ret
   exact ⟨rfl,B9.out⟩
theorem SenderAllowed_walk (v:Option Addr) (len cap:Nat) (c:Setup) (l:List Act17) (b off:Nat) (W:World) (hc:∀i,c i≤18446744073709551615) (h:l.length=len∧InAct17 W v l b off) (hg:Gl W):
  Calls Tryz.prog 4 #[.agg (ccells c),.slice v len cap] W fun e w'=>e=.returned (.bool true)∧Below W.heap.size W w':=by
 obtain ⟨rfl,h⟩:=h
 rcases hr:rightC c with _ | _
 ·exact allow17_no v cap b off l c hc W hg h (.inl hr)
 ·rcases hf:fits17 l with _ | _
  ·exact allow17_no v cap b off l c hc W hg h (.inr hf)
  ·exact allow17_few v cap b off l c hc W hg h hr hf
end Go.Proofs.YteoepabmnbkabaaGreatDoor
