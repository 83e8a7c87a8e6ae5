/- 1 texts put together: what each one says stands ahead of it. -/
import Derived.Test.YteoepabmnbkabaaGreatDoorKS46
import Derived.Test.YteoepabmnbkabaaGreatDoorKS48
import Derived.Test.YteoepabmnbkabaaGreatDoorKS04
import Derived.Test.YteoepabmnbkabaaGreatDoorKS10
import Derived.StillTailTactics
set_option linter.unusedVariables false
namespace Go.Proofs.YteoepabmnbkabaaGreatDoor
open Go.RowKit Cf
theorem SN.stuck_all {c:Setup} {k m d:Nat} {s:SN} (h:s.ok c k m d) (hr:rightC c=true) (hk:k≤899) (hw:0 < (s.tickS s.c.t).w) (hf:(s.tickS s.c.t).L.fl=0) (hp:(s.tickS s.c.t).c.p=false):
  (s.tickS s.c.t).nextB=true∧(s.tickS s.c.t).c.t≤(s.tickS s.c.t).nextT∧((s.tickS s.c.t).nextT≤4398046511104→(s.tickS s.c.t).c.toE (s.tickS s.c.t).nextT=0∧(s.tickS s.c.t).tickL (s.tickS s.c.t).nextT≠[]):=by
 have hsp:s.c.p=false:=by
  cases q:s.c.p with
  | false=>rfl
  | true=>
    have e:s.c.toE s.c.t≠0:=by unfold CS.toE;rw [if_pos q];decide
    rw [(SN.tick_no e).1] at hp
    have h3:(s.tim s.c.t).c.p=true:=by rw [SN.tim_past q];exact q
    rw [h3] at hp
    exact absurd hp (by decide)
 have ht:s.c.toE s.c.t=0:=by
  unfold CS.toE
  rw [if_neg (by rw [hsp];decide),if_neg (by omega),if_neg (by have:=h.cl.1;omega)]
 obtain ⟨T,O⟩:=SN.tick_yes h hr (by omega) ht
 generalize s.tickS s.c.t=x at *
 have ho:x.L.out=[]:=totS_zero (fun p hp=>(O.pk p hp).1) (by rw [← O.fl];exact hf)
 have hct:x.p.t=x.c.t:=by rw [T.pt,T.ck]
 rcases SN.stuck O hr T.pr T.pq hw ho hp with ⟨a,b⟩ | a
 ·exact ⟨a,b,fun hn=>SN.stuck_goes O hr T.pr T.pq hct hw ho hp hn⟩
 ·omega
set_option maxHeartbeats 1000000 in
theorem stuck17_no (v:Option Addr) (cap b off:Nat) (l:List Act17) (c:Setup) (hc:∀i,c i≤18446744073709551615) (W:World) (hg:Gl W) (h:InAct17 W v l b off) (hr:rightC c=false∨fits17 l=false):
  Calls Tryz.prog 5 #[.agg (ccells c),.slice v l.length cap] W fun e w'=>e=.returned (.bool true)∧Below W.heap.size W w':=by
 have HR:=Lib.hid (fun w=>ref_Right c w)
 have HF:=Lib.hid (fun w (k:Below W.heap.size W w)=>fits17_any l v cap b off w (h.keep k))
 have HA:=Lib.hid (fun w hg=>alive17 w hg)
 have HG:=Lib.hid hg
 have N0:Hid (NewI W c (W.alloc (.cells (ccells c) 24))):=Lib.hid ⟨Blk.new W _ _,al_be _ _⟩
 have HX:Hid (ccells c=#[.int .u64 (c 0:Int),.int .u64 (c 1:Int),.int .u64 (c 2:Int),.int .u64 (c 3:Int),.int .u64 (c 4:Int),.int .u64 (c 5:Int)]):=Lib.hid rfl
 clear hg hc h
 rw [HX.out] at N0 HR ⊢
 generalize rightC c=bc at *
 generalize fits17 l=bf at *
 rcases hr with hr | hr
 ·subst hr
  go_enter Tryz.func5,Tryz.ntmps5
  go_wp2_with fail
  refine (HR.out _).mono ?_
  rintro e w1 ⟨rfl,hb⟩
  have N1:=ni_k N0 hb
  clear N0 hb HR
  go_wp2_with fail
  refine (HF.out _ N1.out.bel).mono ?_
  rintro e wf ⟨rfl,hw⟩
  have hw:=hw.symm
  subst hw
  clear HF
  go_wp2_with fail
  refine (HA.out _ (HG.out.keep N1.out.bel)).mono ?_
  rintro e w2 ⟨rfl,hb⟩
  have N2:=ni_k N1 hb
  clear hb N1
  go_wp2_with fail
  go_ret
  exact ⟨rfl,N2.out.bel⟩
 ·subst hr
  cases bc
  all_goals
   go_enter Tryz.func5,Tryz.ntmps5
   go_wp2_with fail
   refine (HR.out _).mono ?_
   rintro e w1 ⟨rfl,hb⟩
   have N1:=ni_k N0 hb
   clear N0 hb HR
   go_wp2_with fail
   refine (HF.out _ N1.out.bel).mono ?_
   rintro e wf ⟨rfl,hw⟩
   have hw:=hw.symm
   subst hw
   clear HF
   go_wp2_with fail
   refine (HA.out _ (HG.out.keep N1.out.bel)).mono ?_
   rintro e w2 ⟨rfl,hb⟩
   have N2:=ni_k N1 hb
   clear hb N1
   go_wp2_with fail
   go_ret
   exact ⟨rfl,N2.out.bel⟩
set_option maxRecDepth 100000 in
set_option maxHeartbeats 8000000 in
theorem stuck17_few (v:Option Addr) (cap b off:Nat) (l:List Act17) (c:Setup) (hc:∀i,c i≤18446744073709551615) (W:World) (hg:Gl W) (h:InAct17 W v l b off) (hr:rightC c=true) (hf:fits17 l=true):
  Calls Tryz.prog 5 #[.agg (ccells c),.slice v l.length cap] W fun e w'=>e=.returned (.bool true)∧Below W.heap.size W w':=by
 have HR:=Lib.hid (fun w=>ref_Right c w)
 have HF:=Lib.hid (fun w (k:Below W.heap.size W w)=>fits17_any l v cap b off w (h.keep k))
 have HA:=Lib.hid (fun w hg=>alive17 w hg)
 have HG:=Lib.hid hg
 have N0:Hid (NewI W c (W.alloc (.cells (ccells c) 24))):=Lib.hid ⟨Blk.new W _ _,al_be _ _⟩
 have HX:Hid (ccells c=#[.int .u64 (c 0:Int),.int .u64 (c 1:Int),.int .u64 (c 2:Int),.int .u64 (c 3:Int),.int .u64 (c 4:Int),.int .u64 (c 5:Int)]):=Lib.hid rfl
 have HN:=Lib.hid (fun w hg=>sn_New_ok c hc hr w hg)
 have HOk:=Lib.hid (SN.new_ok hr hc)
 have HRt:=Lib.hid hr
 have HFt:=Lib.hid (fits17_yes hf)
 have HI:=Lib.hid h
 rw [hf] at HF
 rw [hr] at HR
 have r0:=ni_r (W:=W) (c:=c) (i:=0) (v:=.int .u64 (c 0:Int)) rfl
 have r1:=ni_r (W:=W) (c:=c) (i:=1) (v:=.int .u64 (c 1:Int)) rfl
 have r2:=ni_r (W:=W) (c:=c) (i:=2) (v:=.int .u64 (c 2:Int)) rfl
 have r3:=ni_r (W:=W) (c:=c) (i:=3) (v:=.int .u64 (c 3:Int)) rfl
 have r4:=ni_r (W:=W) (c:=c) (i:=4) (v:=.int .u64 (c 4:Int)) rfl
 have r5:=ni_r (W:=W) (c:=c) (i:=5) (v:=.int .u64 (c 5:Int)) rfl
 clear hg hr hc hf h
 rw [HX.out] at N0 HR HN ⊢
 go_enter Tryz.func5,Tryz.ntmps5
 go_wp2_with fail
 refine (HR.out _).mono ?_
 rintro e w1 ⟨rfl,hb⟩
 have N1:=ni_k N0 hb
 clear N0 hb HR
 go_wp2_with fail
 refine (HF.out _ N1.out.bel).mono ?_
 rintro e wf ⟨rfl,hw⟩
 have hw:=hw.symm
 subst hw
 clear HF
 go_wp2_with fail
 refine (HN.out _ (HG.out.keep N1.out.bel)).mono ?_
 rintro e w2 ⟨D,rfl,hs,hb⟩
 have I2:=Lib.hid (SndI.start hs)
 have HB2:=Lib.hid hb
 clear hs hb HN
 go_wp2_with fail
 have HBw:=Lib.hid (bel_to N1.out.bel HB2.out N1.out.bel.size)
 go_loopw [9] (fun i wr=>∃(k m d:Nat) (s:SN),i=.int .i64 (k:Int)∧k≤l.length∧m≤65 * k∧s.ok c k m d∧SndI w2 w1.heap.size D s wr) (fun i _=>l.length - (intOf i).toNat)
 case atStart=>exact ⟨0,0,0,SN.new c,rfl,Nat.zero_le _,Nat.zero_le _,HOk.out,I2.out⟩
 case round=>
  obtain ⟨k,m,d,s,rfl,hk,hm,hok,hi⟩:=hrel
  have M0:=Lib.hid hi
  have HO:=Lib.hid hok
  have HM:=Lib.hid hm
  clear hi hok hm I2
  by_cases hlt:k < l.length
  ·clear hk
   obtain ⟨rfl,hb0⟩:=HI.out.2.1 (by omega)
   have HQ:=Lib.hid (HI.out.2.2 k hlt)
   have HQl:=Lib.hid (HFt.out.2 k hlt)
   have hk80:k < 80:=by have:=HFt.out.1;omega
   have HK80:=Lib.hid hk80
   have HBd:=Lib.hid hb0
   have HLt:=Lib.hid hlt
   have i0:(0:Int)≤(k:Int):=by omega
   have i1:(k:Int) < (l.length:Int):=by omega
   generalize l.getD k default=q at *
   clear hb0
   obtain ⟨a,ha⟩:=SN.did HO.out HRt.out (by have:=HK80.out;omega) (by have:=HM.out;have:=HK80.out;omega) q.k q.n q.r
   have HDid:=Lib.hid ha
   have HDo:Hid (∀w,SndAt w w1.heap.size D s→Below W.heap.size W w→Calls Tryz.prog 14 #[.pointer (some ⟨D.b,0,none⟩),.agg #[.int .u8 (q.k:Int),.int .u64 (q.n:Int),.slice q.p q.r.length q.c]] w fun e w'=>∃v,e=.returned v∧PRow w.heap.size w' v (s.doL q.k q.n)∧SndI w w1.heap.size D (s.doS q.k q.n q.r) w'):=Lib.hid (fun w q0 hbw=>do17 q.k q.n q.p q.c q.r w q0 HO.out HRt.out (by have:=HK80.out;omega) (by have:=HM.out;have:=HK80.out;omega) HQ.out.b0 HQ.out.b1 (HQ.out.keep HBd.out hbw).b2.2.1 (fun hp a ea=>Nat.lt_of_lt_of_le (HQ.out.b2.2.1.lt hp a ea) N1.out.bel.size) (Nat.le_trans HQl.out (by omega)) HQ.out.b2.2.2)
   generalize s.doS q.k q.n q.r=s' at *
   generalize s.doL q.k q.n=L at *
   clear ha
   have Q1:=HQ.out.keep HBd.out (HBw.out.trans (M0.out.bel.mono N1.out.bel.size))
   have x0:=Q1.k0
   have x1:=Q1.k1
   have x2:=Q1.k2
   clear Q1
   go_wp2_with fail
   refine (HDo.out _ M0.out.at_ (HBw.out.trans (M0.out.bel.mono N1.out.bel.size))).mono ?_
   rintro e w7 ⟨v7,rfl,hrow,hi⟩
   have M4:=Lib.hid (M0.out.over hi)
   clear hrow hi x0 x1 x2
   go_wp2_with fail
   have hlt:=HLt.out
   go_roundw
   case rel=>exact ⟨k + 1,m + 65,d + a,s',by go_num,by omega,by have:=HM.out;omega,HDid.out.ok,M4.out⟩
   case measure=>simp [intOf];omega
  ·obtain rfl:k=l.length:=by omega
   clear hlt hk
   have hl80:=HFt.out.1
   have hm5:=HM.out
   have o1:=(SN.did_tick (kd:=1) (n:=0) HO.out HRt.out (by omega) s.c.t (by decide) (by decide)).ok
   have HSt:=Lib.hid (SN.stuck_all HO.out HRt.out (by omega))
   have HTi:=Lib.hid (fun w (q:SndAt w w1.heap.size D s)=>sn_Time w q)
   have HTk:=Lib.hid (fun w (q:SndAt w w1.heap.size D s)=>sn_Tick s.c.t w q HO.out HRt.out (by omega) (by omega))
   have HNe:=Lib.hid (fun w (q:SndAt w w1.heap.size D (s.tickS s.c.t))=>sn_Next w q o1)
   have HWt:=Lib.hid (fun w (q:SndAt w w1.heap.size D (s.tickS s.c.t))=>sn_Waiting w q)
   have HFl:=Lib.hid (fun w (q:SndAt w w1.heap.size D (s.tickS s.c.t))=>sn_InFlight w q)
   have HPs:=Lib.hid (fun w (q:SndAt w w1.heap.size D (s.tickS s.c.t))=>sn_Past w q)
   have HT1:=Lib.hid (fun w (q:SndAt w w1.heap.size D (s.tickS s.c.t))=>sn_Time w q)
   have HT2:=Lib.hid (fun w (q:SndAt w w1.heap.size D (s.tickS s.c.t))=>sn_Tick (s.tickS s.c.t).nextT w q o1 HRt.out (by omega) (by omega))
   clear o1 hl80 hm5
   generalize s.tickE s.c.t=te at *
   generalize s.tickL s.c.t=L1 at *
   generalize hs1:s.tickS s.c.t=s1 at *
   generalize s.c.t=t0 at *
   unfold SN.tickE at HT2
   generalize s1.tickS s1.nextT=s2 at *
   generalize hL2:s1.tickL s1.nextT=L2 at *
   generalize hte:s1.c.toE s1.nextT=te2 at *
   generalize s1.nextT=nt at *
   generalize s1.nextB=nb at *
   generalize hf:s1.L.fl=fl at *
   generalize hw:s1.w=wt at *
   generalize s1.c.t=t1 at *
   generalize s1.c.p=pp at *
   clear hs1 hL2 hte hf hw
   go_wp2_with fail
   refine (HTi.out _ M0.out.at_).mono ?_
   rintro e wM1 ⟨rfl,hb⟩
   have M1:=Lib.hid (M0.out.to hb)
   clear hb
   go_wp2_with fail
   refine (HTk.out _ M1.out.at_).mono ?_
   rintro e wM2 ⟨v1,rfl,hrow,hi⟩
   have M2:=Lib.hid (M1.out.over hi)
   clear hrow hi
   go_wp2_with fail
   refine (HNe.out _ M2.out.at_).mono ?_
   rintro e wM3 ⟨rfl,hb⟩
   have M3:=Lib.hid (M2.out.to hb)
   clear hb
   go_wp2_with fail
   refine (HWt.out _ M3.out.at_).mono ?_
   rintro e wM4 ⟨rfl,hb⟩
   have M4:=Lib.hid (M3.out.to hb)
   clear hb
   by_cases c1:wt=0
   ·subst c1
    clear HSt
    go_wp2_with fail
    refine (sn_Tick_nil _).mono ?_
    rintro e wE1 ⟨rfl,hb⟩
    have E1:=Lib.hid (M4.out.to hb)
    clear hb
    go_wp2_with fail
    refine (sn_Next_nil _).mono ?_
    rintro e wE2 ⟨rfl,hb⟩
    have E2:=Lib.hid (E1.out.to hb)
    clear hb
    go_wp2_with fail
    refine (HA.out _ E2.out.at_.e.gl).mono ?_
    rintro e wE3 ⟨rfl,hb⟩
    have E3:=Lib.hid (E2.out.to hb)
    clear hb
    go_wp2_with fail
    refine (sn_Write_nil _).mono ?_
    rintro e wE4 ⟨rfl,hb⟩
    have E4:=Lib.hid (E3.out.to hb)
    clear hb
    go_wp2_with fail
    refine (sn_Ack_nil _).mono ?_
    rintro e wE5 ⟨rfl,hb⟩
    have E5:=Lib.hid (E4.out.to hb)
    clear hb
    go_wp2_with fail
    refine (sn_Waiting_nil _).mono ?_
    rintro e wE6 ⟨rfl,hb⟩
    have E6:=Lib.hid (E5.out.to hb)
    clear hb
    go_wp2_with fail
    refine (sn_InFlight_nil _).mono ?_
    rintro e wE7 ⟨rfl,hb⟩
    have E7:=Lib.hid (E6.out.to hb)
    clear hb
    go_wp2_with fail
    refine (sn_Time_nil _).mono ?_
    rintro e wE8 ⟨rfl,hb⟩
    have E8:=Lib.hid (E7.out.to hb)
    clear hb
    go_wp2_with fail
    refine (sn_Past_nil _).mono ?_
    rintro e wE9 ⟨rfl,hb⟩
    have E9:=Lib.hid (E8.out.to hb)
    clear hb
    go_wp2_with fail
    refine (sn_Engine_nil _).mono ?_
    rintro e wE10 ⟨rfl,hb⟩
    have E10:=Lib.hid (E9.out.to hb)
    clear hb
    go_wp2_with fail
    go_ret
    exact ⟨rfl,(HBw.out.trans (E10.out.bel.mono N1.out.bel.size))⟩
   ·have d1:decide ((0:Int) < (wt:Int))=true:=decide_eq_true (by omega)
    have d1':decide (0 < wt)=true:=decide_eq_true (by omega)
    have C1:Hid (0 < wt):=Lib.hid (by omega)
    clear c1
    go_wp2_with fail
    refine (HFl.out _ M4.out.at_).mono ?_
    rintro e wM5 ⟨rfl,hb⟩
    have M5:=Lib.hid (M4.out.to hb)
    clear hb
    by_cases c2:fl=0
    ·have C2:=Lib.hid c2
     subst c2
     go_wp2_with fail
     refine (HPs.out _ M5.out.at_).mono ?_
     rintro e wM6 ⟨rfl,hb⟩
     have M6:=Lib.hid (M5.out.to hb)
     clear hb
     rcases pp with _ | _
     ·obtain ⟨rfl,ht,hgo⟩:=HSt.out C1.out (by first | rfl | trivial) (by first | rfl | trivial)
      have d2:decide ((nt:Int) < (t1:Int))=false:=decide_eq_false (by omega)
      have d2':decide (nt < t1)=false:=decide_eq_false (by omega)
      clear ht
      go_wp2_with fail
      refine (HT1.out _ M6.out.at_).mono ?_
      rintro e wM7 ⟨rfl,hb⟩
      have M7:=Lib.hid (M6.out.to hb)
      clear hb
      by_cases c3:nt≤4398046511104
      ·have d3:decide ((nt:Int)≤4398046511104)=true:=decide_eq_true (by omega)
       have d3':decide (nt≤4398046511104)=true:=decide_eq_true c3
       obtain ⟨rfl,hL⟩:=hgo c3
       have dl:((L2.length:Int) == 0)=false:=beq_eq_false_iff_ne.2 (fun e=>hL (List.eq_nil_of_length_eq_zero (by omega)))
       clear c3 hL hgo
       go_wp2_with fail
       refine (HT2.out _ M7.out.at_).mono ?_
       rintro e wM8 ⟨v2,rfl,hrow,hi⟩
       have M8:=Lib.hid (M7.out.over hi)
       obtain ⟨vp,vc,rfl⟩:=hrow.pr.form
       clear hrow hi
       go_wp2_with fail
       refine (sn_Tick_nil _).mono ?_
       rintro e wE1 ⟨rfl,hb⟩
       have E1:=Lib.hid (M8.out.to hb)
       clear hb
       go_wp2_with fail
       refine (sn_Next_nil _).mono ?_
       rintro e wE2 ⟨rfl,hb⟩
       have E2:=Lib.hid (E1.out.to hb)
       clear hb
       go_wp2_with fail
       refine (HA.out _ E2.out.at_.e.gl).mono ?_
       rintro e wE3 ⟨rfl,hb⟩
       have E3:=Lib.hid (E2.out.to hb)
       clear hb
       go_wp2_with fail
       refine (sn_Write_nil _).mono ?_
       rintro e wE4 ⟨rfl,hb⟩
       have E4:=Lib.hid (E3.out.to hb)
       clear hb
       go_wp2_with fail
       refine (sn_Ack_nil _).mono ?_
       rintro e wE5 ⟨rfl,hb⟩
       have E5:=Lib.hid (E4.out.to hb)
       clear hb
       go_wp2_with fail
       refine (sn_Waiting_nil _).mono ?_
       rintro e wE6 ⟨rfl,hb⟩
       have E6:=Lib.hid (E5.out.to hb)
       clear hb
       go_wp2_with fail
       refine (sn_InFlight_nil _).mono ?_
       rintro e wE7 ⟨rfl,hb⟩
       have E7:=Lib.hid (E6.out.to hb)
       clear hb
       go_wp2_with fail
       refine (sn_Time_nil _).mono ?_
       rintro e wE8 ⟨rfl,hb⟩
       have E8:=Lib.hid (E7.out.to hb)
       clear hb
       go_wp2_with fail
       refine (sn_Past_nil _).mono ?_
       rintro e wE9 ⟨rfl,hb⟩
       have E9:=Lib.hid (E8.out.to hb)
       clear hb
       go_wp2_with fail
       refine (sn_Engine_nil _).mono ?_
       rintro e wE10 ⟨rfl,hb⟩
       have E10:=Lib.hid (E9.out.to hb)
       clear hb
       go_wp2_with fail
       go_ret
       exact ⟨rfl,(HBw.out.trans (E10.out.bel.mono N1.out.bel.size))⟩
      ·have d3:decide ((nt:Int)≤4398046511104)=false:=decide_eq_false (by omega)
       have d3':decide (nt≤4398046511104)=false:=decide_eq_false c3
       clear c3 hgo
       go_wp2_with fail
       refine (sn_Tick_nil _).mono ?_
       rintro e wE1 ⟨rfl,hb⟩
       have E1:=Lib.hid (M7.out.to hb)
       clear hb
       go_wp2_with fail
       refine (sn_Next_nil _).mono ?_
       rintro e wE2 ⟨rfl,hb⟩
       have E2:=Lib.hid (E1.out.to hb)
       clear hb
       go_wp2_with fail
       refine (HA.out _ E2.out.at_.e.gl).mono ?_
       rintro e wE3 ⟨rfl,hb⟩
       have E3:=Lib.hid (E2.out.to hb)
       clear hb
       go_wp2_with fail
       refine (sn_Write_nil _).mono ?_
       rintro e wE4 ⟨rfl,hb⟩
       have E4:=Lib.hid (E3.out.to hb)
       clear hb
       go_wp2_with fail
       refine (sn_Ack_nil _).mono ?_
       rintro e wE5 ⟨rfl,hb⟩
       have E5:=Lib.hid (E4.out.to hb)
       clear hb
       go_wp2_with fail
       refine (sn_Waiting_nil _).mono ?_
       rintro e wE6 ⟨rfl,hb⟩
       have E6:=Lib.hid (E5.out.to hb)
       clear hb
       go_wp2_with fail
       refine (sn_InFlight_nil _).mono ?_
       rintro e wE7 ⟨rfl,hb⟩
       have E7:=Lib.hid (E6.out.to hb)
       clear hb
       go_wp2_with fail
       refine (sn_Time_nil _).mono ?_
       rintro e wE8 ⟨rfl,hb⟩
       have E8:=Lib.hid (E7.out.to hb)
       clear hb
       go_wp2_with fail
       refine (sn_Past_nil _).mono ?_
       rintro e wE9 ⟨rfl,hb⟩
       have E9:=Lib.hid (E8.out.to hb)
       clear hb
       go_wp2_with fail
       refine (sn_Engine_nil _).mono ?_
       rintro e wE10 ⟨rfl,hb⟩
       have E10:=Lib.hid (E9.out.to hb)
       clear hb
       go_wp2_with fail
       go_ret
       exact ⟨rfl,(HBw.out.trans (E10.out.bel.mono N1.out.bel.size))⟩
     ·clear HSt
      go_wp2_with fail
      refine (sn_Tick_nil _).mono ?_
      rintro e wE1 ⟨rfl,hb⟩
      have E1:=Lib.hid (M6.out.to hb)
      clear hb
      go_wp2_with fail
      refine (sn_Next_nil _).mono ?_
      rintro e wE2 ⟨rfl,hb⟩
      have E2:=Lib.hid (E1.out.to hb)
      clear hb
      go_wp2_with fail
      refine (HA.out _ E2.out.at_.e.gl).mono ?_
      rintro e wE3 ⟨rfl,hb⟩
      have E3:=Lib.hid (E2.out.to hb)
      clear hb
      go_wp2_with fail
      refine (sn_Write_nil _).mono ?_
      rintro e wE4 ⟨rfl,hb⟩
      have E4:=Lib.hid (E3.out.to hb)
      clear hb
      go_wp2_with fail
      refine (sn_Ack_nil _).mono ?_
      rintro e wE5 ⟨rfl,hb⟩
      have E5:=Lib.hid (E4.out.to hb)
      clear hb
      go_wp2_with fail
      refine (sn_Waiting_nil _).mono ?_
      rintro e wE6 ⟨rfl,hb⟩
      have E6:=Lib.hid (E5.out.to hb)
      clear hb
      go_wp2_with fail
      refine (sn_InFlight_nil _).mono ?_
      rintro e wE7 ⟨rfl,hb⟩
      have E7:=Lib.hid (E6.out.to hb)
      clear hb
      go_wp2_with fail
      refine (sn_Time_nil _).mono ?_
      rintro e wE8 ⟨rfl,hb⟩
      have E8:=Lib.hid (E7.out.to hb)
      clear hb
      go_wp2_with fail
      refine (sn_Past_nil _).mono ?_
      rintro e wE9 ⟨rfl,hb⟩
      have E9:=Lib.hid (E8.out.to hb)
      clear hb
      go_wp2_with fail
      refine (sn_Engine_nil _).mono ?_
      rintro e wE10 ⟨rfl,hb⟩
      have E10:=Lib.hid (E9.out.to hb)
      clear hb
      go_wp2_with fail
      go_ret
      exact ⟨rfl,(HBw.out.trans (E10.out.bel.mono N1.out.bel.size))⟩
    ·have d2:((fl:Int) == 0)=false:=beq_eq_false_iff_ne.2 (by omega)
     clear c2 HSt
     go_wp2_with fail
     refine (sn_Tick_nil _).mono ?_
     rintro e wE1 ⟨rfl,hb⟩
     have E1:=Lib.hid (M5.out.to hb)
     clear hb
     go_wp2_with fail
     refine (sn_Next_nil _).mono ?_
     rintro e wE2 ⟨rfl,hb⟩
     have E2:=Lib.hid (E1.out.to hb)
     clear hb
     go_wp2_with fail
     refine (HA.out _ E2.out.at_.e.gl).mono ?_
     rintro e wE3 ⟨rfl,hb⟩
     have E3:=Lib.hid (E2.out.to hb)
     clear hb
     go_wp2_with fail
     refine (sn_Write_nil _).mono ?_
     rintro e wE4 ⟨rfl,hb⟩
     have E4:=Lib.hid (E3.out.to hb)
     clear hb
     go_wp2_with fail
     refine (sn_Ack_nil _).mono ?_
     rintro e wE5 ⟨rfl,hb⟩
     have E5:=Lib.hid (E4.out.to hb)
     clear hb
     go_wp2_with fail
     refine (sn_Waiting_nil _).mono ?_
     rintro e wE6 ⟨rfl,hb⟩
     have E6:=Lib.hid (E5.out.to hb)
     clear hb
     go_wp2_with fail
     refine (sn_InFlight_nil _).mono ?_
     rintro e wE7 ⟨rfl,hb⟩
     have E7:=Lib.hid (E6.out.to hb)
     clear hb
     go_wp2_with fail
     refine (sn_Time_nil _).mono ?_
     rintro e wE8 ⟨rfl,hb⟩
     have E8:=Lib.hid (E7.out.to hb)
     clear hb
     go_wp2_with fail
     refine (sn_Past_nil _).mono ?_
     rintro e wE9 ⟨rfl,hb⟩
     have E9:=Lib.hid (E8.out.to hb)
     clear hb
     go_wp2_with fail
     refine (sn_Engine_nil _).mono ?_
     rintro e wE10 ⟨rfl,hb⟩
     have E10:=Lib.hid (E9.out.to hb)
     clear hb
     go_wp2_with fail
     go_ret
     exact ⟨rfl,(HBw.out.trans (E10.out.bel.mono N1.out.bel.size))⟩
theorem SenderStuck_walk (v:Option Addr) (len cap:Nat) (c:Setup) (l:List Act17) (b off:Nat) (W:World) (hc:∀i,c i≤18446744073709551615) (h:l.length=len∧InAct17 W v l b off) (hg:Gl W):
  Calls Tryz.prog 5 #[.agg (ccells c),.slice v len cap] W fun e w'=>e=.returned (.bool true)∧Below W.heap.size W w':=by
 obtain ⟨rfl,h⟩:=h
 rcases hr:rightC c with _ | _
 ·exact stuck17_no v cap b off l c hc W hg h (.inl hr)
 ·rcases hf:fits17 l with _ | _
  ·exact stuck17_no v cap b off l c hc W hg h (.inr hf)
  ·exact stuck17_few v cap b off l c hc W hg h hr hf
end Go.Proofs.YteoepabmnbkabaaGreatDoor
