/- 1 texts put together: what each one says stands ahead of it. -/
import Derived.Test.YteoepabmnbkabaaGreatDoorKS46
import Derived.Test.YteoepabmnbkabaaGreatDoorKS48
import Derived.Test.YteoepabmnbkabaaGreatDoorKS10
import Derived.StillTailTactics
set_option linter.unusedVariables false
namespace Go.Proofs.YteoepabmnbkabaaGreatDoor
open Go.RowKit Cf
set_option maxHeartbeats 1000000 in
theorem kept_no (v:Option Addr) (cap b off:Nat) (l:List Act17) (c:Setup) (hc:∀i,c i≤18446744073709551615) (W:World) (hg:Gl W) (h:InAct17 W v l b off) (hr:rightC c=false∨fits17 l=false):
  Calls Tryz.prog 6 #[.agg (ccells c),.slice v l.length cap] W fun e w'=>e=.returned (.bool true)∧Below W.heap.size W w':=by
 have HR:=Lib.hid (fun w=>ref_Right c w)
 have HF:=Lib.hid (fun w (k:Below W.heap.size W w)=>fits17_any l v cap b off w (h.keep k))
 have HA:=Lib.hid (fun w hg=>alive17 w hg)
 have HG:=Lib.hid hg
 have N0:Hid (NewI W c (W.alloc (.cells (ccells c) 24))):=Lib.hid ⟨Blk.new W _ _,al_be _ _⟩
 have HX:Hid (ccells c=#[.int .u64 (c 0:Int),.int .u64 (c 1:Int),.int .u64 (c 2:Int),.int .u64 (c 3:Int),.int .u64 (c 4:Int),.int .u64 (c 5:Int)]):=Lib.hid rfl
 clear hg hc h
 rw [HX.out] at N0 HR ⊢
 generalize rightC c=bc at *
 generalize fits17 l=bf at *
 rcases hr with hr | hr
 ·subst hr
  go_enter Tryz.func6,Tryz.ntmps6
  go_wp2_with fail
  refine (HR.out _).mono ?_
  rintro e w1 ⟨rfl,hb⟩
  have N1:=ni_k N0 hb
  clear N0 hb HR
  go_wp2_with fail
  refine (HF.out _ N1.out.bel).mono ?_
  rintro e wf ⟨rfl,hw⟩
  have hw:=hw.symm
  subst hw
  clear HF
  go_wp2_with fail
  refine (HA.out _ (HG.out.keep N1.out.bel)).mono ?_
  rintro e w2 ⟨rfl,hb⟩
  have N2:=ni_k N1 hb
  clear hb N1
  go_wp2_with fail
  go_ret
  exact ⟨rfl,N2.out.bel⟩
 ·subst hr
  cases bc
  all_goals
   go_enter Tryz.func6,Tryz.ntmps6
   go_wp2_with fail
   refine (HR.out _).mono ?_
   rintro e w1 ⟨rfl,hb⟩
   have N1:=ni_k N0 hb
   clear N0 hb HR
   go_wp2_with fail
   refine (HF.out _ N1.out.bel).mono ?_
   rintro e wf ⟨rfl,hw⟩
   have hw:=hw.symm
   subst hw
   clear HF
   go_wp2_with fail
   refine (HA.out _ (HG.out.keep N1.out.bel)).mono ?_
   rintro e w2 ⟨rfl,hb⟩
   have N2:=ni_k N1 hb
   clear hb N1
   go_wp2_with fail
   go_ret
   exact ⟨rfl,N2.out.bel⟩
set_option maxRecDepth 100000 in
set_option maxHeartbeats 8000000 in
theorem kept_few (v:Option Addr) (cap b off:Nat) (l:List Act17) (c:Setup) (hc:∀i,c i≤18446744073709551615) (W:World) (hg:Gl W) (h:InAct17 W v l b off) (hr:rightC c=true) (hf:fits17 l=true):
  Calls Tryz.prog 6 #[.agg (ccells c),.slice v l.length cap] W fun e w'=>e=.returned (.bool true)∧Below W.heap.size W w':=by
 have HR:=Lib.hid (fun w=>ref_Right c w)
 have HF:=Lib.hid (fun w (k:Below W.heap.size W w)=>fits17_any l v cap b off w (h.keep k))
 have HA:=Lib.hid (fun w hg=>alive17 w hg)
 have HG:=Lib.hid hg
 have N0:Hid (NewI W c (W.alloc (.cells (ccells c) 24))):=Lib.hid ⟨Blk.new W _ _,al_be _ _⟩
 have HX:Hid (ccells c=#[.int .u64 (c 0:Int),.int .u64 (c 1:Int),.int .u64 (c 2:Int),.int .u64 (c 3:Int),.int .u64 (c 4:Int),.int .u64 (c 5:Int)]):=Lib.hid rfl
 have HN:=Lib.hid (fun w hg=>sn_New_ok c hc hr w hg)
 have HOk:=Lib.hid (SN.new_ok hr hc)
 have HRt:=Lib.hid hr
 have HFt:=Lib.hid (fits17_yes hf)
 have HI:=Lib.hid h
 rw [hf] at HF
 rw [hr] at HR
 have r0:=ni_r (W:=W) (c:=c) (i:=0) (v:=.int .u64 (c 0:Int)) rfl
 have r1:=ni_r (W:=W) (c:=c) (i:=1) (v:=.int .u64 (c 1:Int)) rfl
 have r2:=ni_r (W:=W) (c:=c) (i:=2) (v:=.int .u64 (c 2:Int)) rfl
 have r3:=ni_r (W:=W) (c:=c) (i:=3) (v:=.int .u64 (c 3:Int)) rfl
 have r4:=ni_r (W:=W) (c:=c) (i:=4) (v:=.int .u64 (c 4:Int)) rfl
 have r5:=ni_r (W:=W) (c:=c) (i:=5) (v:=.int .u64 (c 5:Int)) rfl
 clear hg hr hc hf h
 rw [HX.out] at N0 HR HN ⊢
 go_enter Tryz.func6,Tryz.ntmps6
 go_wp2_with fail
 refine (HR.out _).mono ?_
 rintro e w1 ⟨rfl,hb⟩
 have N1:=ni_k N0 hb
 clear N0 hb HR
 go_wp2_with fail
 refine (HF.out _ N1.out.bel).mono ?_
 rintro e wf ⟨rfl,hw⟩
 have hw:=hw.symm
 subst hw
 clear HF
 go_wp2_with fail
 refine (HN.out _ (HG.out.keep N1.out.bel)).mono ?_
 rintro e w2 ⟨D,rfl,hs,hb⟩
 have I2:=Lib.hid (SndI.start hs)
 have HB2:=Lib.hid hb
 clear hs hb HN
 go_wp2_with fail
 have HBw:=Lib.hid (bel_to N1.out.bel HB2.out N1.out.bel.size)
 go_loopw [9,10,11] (fun wv av i wr=>∃(k m d:Nat) (s:SN),i=.int .i64 (k:Int)∧wv=.int .u64 (s.c.n:Int)∧av=.int .u64 (d:Int)∧k≤l.length∧m≤65 * k∧s.ok c k m d∧SndI w2 w1.heap.size D s wr) (fun _ _ i _=>l.length - (intOf i).toNat)
 case atStart=>exact ⟨0,0,0,SN.new c,rfl,rfl,rfl,Nat.zero_le _,Nat.zero_le _,HOk.out,I2.out⟩
 case round=>
  obtain ⟨k,m,d,s,rfl,rfl,rfl,hk,hm,hok,hi⟩:=hrel
  have M0:=Lib.hid hi
  have HO:=Lib.hid hok
  have HM:=Lib.hid hm
  have HKl:=Lib.hid hk
  clear hi hok hm I2
  by_cases hlt:k < l.length
  ·clear hk
   obtain ⟨rfl,hb0⟩:=HI.out.2.1 (by omega)
   have HQ:=Lib.hid (HI.out.2.2 k hlt)
   have HQl:=Lib.hid (HFt.out.2 k hlt)
   have hk80:k < 80:=by have:=HFt.out.1;omega
   have HK80:=Lib.hid hk80
   have HBd:=Lib.hid hb0
   have HLt:=Lib.hid hlt
   have i0:(0:Int)≤(k:Int):=by omega
   have i1:(k:Int) < (l.length:Int):=by omega
   generalize l.getD k default=q at *
   clear hb0
   obtain ⟨a,ha⟩:=SN.did HO.out HRt.out (by have:=HK80.out;omega) (by have:=HM.out;have:=HK80.out;omega) q.k q.n q.r
   have HDid:=Lib.hid ha
   have HDo:Hid (∀w,SndAt w w1.heap.size D s→Below W.heap.size W w→Calls Tryz.prog 14 #[.pointer (some ⟨D.b,0,none⟩),.agg #[.int .u8 (q.k:Int),.int .u64 (q.n:Int),.slice q.p q.r.length q.c]] w fun e w'=>∃v,e=.returned v∧PRow w.heap.size w' v (s.doL q.k q.n)∧SndI w w1.heap.size D (s.doS q.k q.n q.r) w'):=Lib.hid (fun w q0 hbw=>do17 q.k q.n q.p q.c q.r w q0 HO.out HRt.out (by have:=HK80.out;omega) (by have:=HM.out;have:=HK80.out;omega) HQ.out.b0 HQ.out.b1 (HQ.out.keep HBd.out hbw).b2.2.1 (fun hp a ea=>Nat.lt_of_lt_of_le (HQ.out.b2.2.1.lt hp a ea) N1.out.bel.size) (Nat.le_trans HQl.out (by omega)) HQ.out.b2.2.2)
   generalize s.doS q.k q.n q.r=s' at *
   generalize s.doL q.k q.n=L at *
   clear ha
   have HPs:=Lib.hid (fun w (q:SndAt w w1.heap.size D s)=>sn_Past w q)
   have HFl:=Lib.hid (fun w (q:SndAt w w1.heap.size D s)=>sn_InFlight w q)
   have HWt:=Lib.hid (fun w (q:SndAt w w1.heap.size D s)=>sn_Waiting w q)
   have HPs':=Lib.hid (fun w (q:SndAt w w1.heap.size D s')=>sn_Past w q)
   have HFl':=Lib.hid (fun w (q:SndAt w w1.heap.size D s')=>sn_InFlight w q)
   have HWt':=Lib.hid (fun w (q:SndAt w w1.heap.size D s')=>sn_Waiting w q)
   obtain ⟨b1,b2,b3,b4⟩:=HDid.out.books HO.out
   have hpast:=HDid.out.past
   have hk0:=HDid.out.k0
   have hk2:=HDid.out.k2
   have hkk:=HDid.out.kk
   obtain ⟨y,hy⟩:∃y,d + a=y:=⟨_,rfl⟩
   have HNn:Hid (m + 65≤65 * (k + 1)∧s'.ok c (k + 1) (m + 65) y):=Lib.hid ⟨by have:=HM.out;omega,by rw [← hy];exact HDid.out.ok⟩
   generalize hfl:s.L.fl=fl at *
   generalize hfl':s'.L.fl=fl' at *
   generalize hw0:s.w=wt at *
   generalize hw1:s'.w=wt' at *
   generalize hcn:s.c.n=cn at *
   generalize hcn':s'.c.n=cn' at *
   have HCn':=Lib.hid hcn'
   generalize hpp:s.c.p=pp at *
   generalize hpp':s'.c.p=pp' at *
   obtain ⟨was,hwas⟩:∃was,fl + wt=was:=⟨_,rfl⟩
   obtain ⟨now,hnow⟩:∃now,fl' + wt'=now:=⟨_,rfl⟩
   have e1:(fl:Int) + (wt:Int)=(was:Int):=by omega
   have e2:(fl':Int) + (wt':Int)=(now:Int):=by omega
   have u1:IntKind.u64.wrap (was:Int)=(was:Int):=by rw [IntKind.wrap_u64];omega
   have u2:IntKind.u64.wrap (now:Int)=(now:Int):=by rw [IntKind.wrap_u64];omega
   have HW:Hid (was + d=cn∧now + y=cn'∧cn≤72057594037927936∧cn'≤72057594037927936∧d + a=y):=Lib.hid (by omega)
   have HP:Hid (pp=true→L=[]∧now=was∧pp'=true):=Lib.hid (fun e=>⟨(hpast e).1,by have:=(hpast e).2.1;omega,(hpast e).2.2⟩)
   have H0:=Lib.hid hk0
   have H2:=Lib.hid hk2
   have HKk:=Lib.hid hkk
   clear hfl hfl' hw0 hw1 hcn hcn' hpp hpp' b1 b2 b3 b4 hpast hk0 hk2 hkk hwas hnow hy
   go_wp2_with fail
   refine (HPs.out _ M0.out.at_).mono ?_
   rintro e wM1 ⟨rfl,hb⟩
   have M1:=Lib.hid (M0.out.to hb)
   clear hb
   go_wp2_with fail
   refine (HFl.out _ M1.out.at_).mono ?_
   rintro e wM2 ⟨rfl,hb⟩
   have M2:=Lib.hid (M1.out.to hb)
   clear hb
   go_wp2_with fail
   refine (HWt.out _ M2.out.at_).mono ?_
   rintro e wM3 ⟨rfl,hb⟩
   have M3:=Lib.hid (M2.out.to hb)
   clear hb
   have Q1:=HQ.out.keep HBd.out (HBw.out.trans (M3.out.bel.mono N1.out.bel.size))
   have x0:=Q1.k0
   have x1:=Q1.k1
   have x2:=Q1.k2
   clear Q1
   go_wp2_with fail
   refine (HDo.out _ M3.out.at_ (HBw.out.trans (M3.out.bel.mono N1.out.bel.size))).mono ?_
   rintro e w7 ⟨v7,rfl,hrow,hi⟩
   have M4:=Lib.hid (M3.out.over hi)
   obtain ⟨vp,vc,rfl⟩:=hrow.pr.form
   clear hrow hi x0 x1 x2
   go_wp2_with fail
   refine (HFl'.out _ M4.out.at_).mono ?_
   rintro e wM5 ⟨rfl,hb⟩
   have M5:=Lib.hid (M4.out.to hb)
   clear hb
   go_wp2_with fail
   refine (HWt'.out _ M5.out.at_).mono ?_
   rintro e wM6 ⟨rfl,hb⟩
   have M6:=Lib.hid (M5.out.to hb)
   clear hb
   have HQk:=Lib.hid HQ.out.b0
   rcases pp with _ | _
   ·have hqk:=HQk.out
    have hW:=HW.out
    have Q1:=HQ.out.keep HBd.out (HBw.out.trans (M6.out.bel.mono N1.out.bel.size))
    have x0:=Q1.k0
    have x1:=Q1.k1
    have x2:=Q1.k2
    clear Q1
    rcases (show q.k % 5=0∨q.k % 5=2∨(q.k % 5≠0∧q.k % 5≠2) by omega) with hc | hc | hc
    ·obtain ⟨ha,hn⟩:=H0.out hc
     have t0:Int.tmod (q.k:Int) 5=0:=by rw [Int.tmod_eq_emod_of_nonneg (by omega)];omega
     have t1:(q.k:Int) % 5=0:=by omega
     have HYd:Hid (y=d):=Lib.hid (by omega)
     have e3:(cn:Int) + (now:Int)=((cn + now:Nat):Int):=by omega
     have u3:IntKind.u64.wrap ((cn + now:Nat):Int)=((cn + now:Nat):Int):=by rw [IntKind.wrap_u64];omega
     have e4:((cn + now:Nat):Int) - (was:Int)=(cn':Int):=by omega
     have u4:IntKind.u64.wrap (cn':Int)=(cn':Int):=by rw [IntKind.wrap_u64];omega
     have e5:(d:Int) + (now:Int)=(cn':Int):=by omega
     generalize cn + now=cx at *
     by_cases hq:now=was
     ·subst hq
      clear hn hc ha hW hqk
      go_wp2_with fail
      have hlt:=HLt.out
      go_roundw
      case rel=>exact ⟨k + 1,m + 65,y,s',by go_num,by rw [HCn'.out],by rw [HYd.out],by omega,HNn.out.1,HNn.out.2,M6.out⟩
      case measure=>simp [intOf];omega
     ·have dq:((now:Int) == (was:Int))=false:=beq_eq_false_iff_ne.2 (by omega)
      have e6:(was:Int) + (q.n:Int)=(now:Int):=by omega
      clear hq hn hc ha hW hqk
      go_wp2_with fail
      have hlt:=HLt.out
      go_roundw
      case rel=>exact ⟨k + 1,m + 65,y,s',by go_num,by rw [HCn'.out],by rw [HYd.out],by omega,HNn.out.1,HNn.out.2,M6.out⟩
      case measure=>simp [intOf];omega
    ·have hn:=H2.out hc
     have t0:Int.tmod (q.k:Int) 5=2:=by rw [Int.tmod_eq_emod_of_nonneg (by omega)];omega
     have t1:(q.k:Int) % 5=2:=by omega
     have HE:Hid (cn'=cn):=Lib.hid hn
     have e3:(d:Int) + (was:Int)=(cn:Int):=by omega
     have u3:IntKind.u64.wrap (cn:Int)=(cn:Int):=by rw [IntKind.wrap_u64];omega
     have e4:(cn:Int) - (now:Int)=(y:Int):=by omega
     have u4:IntKind.u64.wrap (y:Int)=(y:Int):=by rw [IntKind.wrap_u64];omega
     have e5:(y:Int) + (now:Int)=(cn:Int):=by omega
     have dq:decide ((was:Int) < (now:Int))=false:=decide_eq_false (by omega)
     have dq':decide (was < now)=false:=decide_eq_false (by omega)
     clear hn hc hW hqk
     go_wp2_with fail
     have hlt:=HLt.out
     go_roundw
     case rel=>exact ⟨k + 1,m + 65,y,s',by go_num,by rw [HCn'.out,HE.out],rfl,by omega,HNn.out.1,HNn.out.2,M6.out⟩
     case measure=>simp [intOf];omega
    ·obtain ⟨ha,hn⟩:=HKk.out hc.1 hc.2
     obtain ⟨z,hz⟩:∃z,q.k % 5=z:=⟨_,rfl⟩
     have t0:Int.tmod (q.k:Int) 5=(z:Int):=by rw [Int.tmod_eq_emod_of_nonneg (by omega)];omega
     have t1:(q.k:Int) % 5=(z:Int):=by omega
     have z0:((z:Int) == 0)=false:=beq_eq_false_iff_ne.2 (by omega)
     have z2:((z:Int) == 2)=false:=beq_eq_false_iff_ne.2 (by omega)
     clear hz
     have HYd:Hid (y=d):=Lib.hid (by omega)
     have HE:Hid (cn'=cn):=Lib.hid hn
     obtain rfl:now=was:=(by omega)
     have e5:(d:Int) + (now:Int)=(cn:Int):=by omega
     have u5:IntKind.u64.wrap (cn:Int)=(cn:Int):=by rw [IntKind.wrap_u64];omega
     clear hn hc ha hW hqk
     go_wp2_with fail
     have hlt:=HLt.out
     go_roundw
     case rel=>exact ⟨k + 1,m + 65,y,s',by go_num,by rw [HCn'.out,HE.out],by rw [HYd.out],by omega,HNn.out.1,HNn.out.2,M6.out⟩
     case measure=>simp [intOf];omega
   ·obtain ⟨rfl,hnw,hpp⟩:=HP.out rfl
    subst hpp
    subst hnw
    go_wp2_with fail
    refine (HPs'.out _ M6.out.at_).mono ?_
    rintro e wM7 ⟨rfl,hb⟩
    have M7:=Lib.hid (M6.out.to hb)
    clear hb
    have hqk:=HQk.out
    have hW:=HW.out
    have Q1:=HQ.out.keep HBd.out (HBw.out.trans (M7.out.bel.mono N1.out.bel.size))
    have x0:=Q1.k0
    have x1:=Q1.k1
    have x2:=Q1.k2
    clear Q1
    rcases (show q.k % 5=0∨q.k % 5=2∨(q.k % 5≠0∧q.k % 5≠2) by omega) with hc | hc | hc
    ·obtain ⟨ha,hn⟩:=H0.out hc
     have t0:Int.tmod (q.k:Int) 5=0:=by rw [Int.tmod_eq_emod_of_nonneg (by omega)];omega
     have t1:(q.k:Int) % 5=0:=by omega
     have HYd:Hid (y=d):=Lib.hid (by omega)
     have e3:(cn:Int) + (now:Int)=((cn + now:Nat):Int):=by omega
     have u3:IntKind.u64.wrap ((cn + now:Nat):Int)=((cn + now:Nat):Int):=by rw [IntKind.wrap_u64];omega
     have e4:((cn + now:Nat):Int) - (now:Int)=(cn':Int):=by omega
     have u4:IntKind.u64.wrap (cn':Int)=(cn':Int):=by rw [IntKind.wrap_u64];omega
     have e5:(d:Int) + (now:Int)=(cn':Int):=by omega
     generalize cn + now=cx at *
     clear hn hc ha hW hqk
     go_wp2_with fail
     have hlt:=HLt.out
     go_roundw
     case rel=>exact ⟨k + 1,m + 65,y,s',by go_num,by rw [HCn'.out],by rw [HYd.out],by omega,HNn.out.1,HNn.out.2,M7.out⟩
     case measure=>simp [intOf];omega
    ·have hn:=H2.out hc
     have t0:Int.tmod (q.k:Int) 5=2:=by rw [Int.tmod_eq_emod_of_nonneg (by omega)];omega
     have t1:(q.k:Int) % 5=2:=by omega
     have HE:Hid (cn'=cn):=Lib.hid hn
     have e3:(d:Int) + (now:Int)=(cn:Int):=by omega
     have u3:IntKind.u64.wrap (cn:Int)=(cn:Int):=by rw [IntKind.wrap_u64];omega
     have e4:(cn:Int) - (now:Int)=(y:Int):=by omega
     have u4:IntKind.u64.wrap (y:Int)=(y:Int):=by rw [IntKind.wrap_u64];omega
     have e5:(y:Int) + (now:Int)=(cn:Int):=by omega
     have dq:decide ((now:Int) < (now:Int))=false:=decide_eq_false (by omega)
     have dq':decide (now < now)=false:=decide_eq_false (by omega)
     clear hn hc hW hqk
     go_wp2_with fail
     have hlt:=HLt.out
     go_roundw
     case rel=>exact ⟨k + 1,m + 65,y,s',by go_num,by rw [HCn'.out,HE.out],rfl,by omega,HNn.out.1,HNn.out.2,M7.out⟩
     case measure=>simp [intOf];omega
    ·obtain ⟨ha,hn⟩:=HKk.out hc.1 hc.2
     obtain ⟨z,hz⟩:∃z,q.k % 5=z:=⟨_,rfl⟩
     have t0:Int.tmod (q.k:Int) 5=(z:Int):=by rw [Int.tmod_eq_emod_of_nonneg (by omega)];omega
     have t1:(q.k:Int) % 5=(z:Int):=by omega
     have z0:((z:Int) == 0)=false:=beq_eq_false_iff_ne.2 (by omega)
     have z2:((z:Int) == 2)=false:=beq_eq_false_iff_ne.2 (by omega)
     clear hz
     have HYd:Hid (y=d):=Lib.hid (by omega)
     have HE:Hid (cn'=cn):=Lib.hid hn
     have e5:(d:Int) + (now:Int)=(cn:Int):=by omega
     have u5:IntKind.u64.wrap (cn:Int)=(cn:Int):=by rw [IntKind.wrap_u64];omega
     clear hn hc ha hW hqk
     go_wp2_with fail
     have hlt:=HLt.out
     go_roundw
     case rel=>exact ⟨k + 1,m + 65,y,s',by go_num,by rw [HCn'.out,HE.out],by rw [HYd.out],by omega,HNn.out.1,HNn.out.2,M7.out⟩
     case measure=>simp [intOf];omega
  ·obtain rfl:k=l.length:=by omega
   clear hlt hk
   go_wp2_with fail
   refine (HA.out _ M0.out.at_.e.gl).mono ?_
   rintro e w9 ⟨rfl,hb⟩
   have B9:=Lib.hid (bel_to (HBw.out.trans (M0.out.bel.mono N1.out.bel.size)) hb (HBw.out.trans (M0.out.bel.mono N1.out.bel.size)).size)
   clear hb
   go_wp2_with fail
   go_ret
   exact ⟨rfl,B9.out⟩
theorem SenderKept_walk (v:Option Addr) (len cap:Nat) (c:Setup) (l:List Act17) (b off:Nat) (W:World) (hc:∀i,c i≤18446744073709551615) (h:l.length=len∧InAct17 W v l b off) (hg:Gl W):
  Calls Tryz.prog 6 #[.agg (ccells c),.slice v len cap] W fun e w'=>e=.returned (.bool true)∧Below W.heap.size W w':=by
 obtain ⟨rfl,h⟩:=h
 rcases hr:rightC c with _ | _
 ·exact kept_no v cap b off l c hc W hg h (.inl hr)
 ·rcases hf:fits17 l with _ | _
  ·exact kept_no v cap b off l c hc W hg h (.inr hf)
  ·exact kept_few v cap b off l c hc W hg h hr hf
end Go.Proofs.YteoepabmnbkabaaGreatDoor
